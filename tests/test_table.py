"""Columns and rows: what makes a table, and what is wrong with what makes none."""

import unittest

from cornersure.errors import InvalidColumn, InvalidColumns, InvalidRows, UnknownName
from cornersure.tables import Table
from tests.samples import Agreeing, Case, Plain, Refusing, bar, crop, odd_numbers, odd_values, table_of

CROP_ROWS = (("rye", ((2, 4), (1, 3))), ("oat", ((0, 1), (3, 5))), ("pea", ((1, 1), (1, 2))))


class MakingTest(Case):
    def test_what_was_passed_comes_back(self):
        table = Table(("dry", "wet"), CROP_ROWS)
        self.assertEqual(table.columns, ("dry", "wet"))
        self.assertEqual(table.rows, CROP_ROWS)
        self.assertEqual(table.names, ("rye", "oat", "pea"))
        self.assertEqual(len(table), 3)
        for value in (table.columns, table.rows, table.names):
            self.assertIs(value.__class__, tuple)

    def test_arguments_by_name(self):
        table = Table(rows=CROP_ROWS, columns=("dry", "wet"))
        self.assertEqual(table, Table(("dry", "wet"), CROP_ROWS))
        self.assertEqual(table.stretch(column="wet", name="oat"), (3, 5))
        self.assertEqual(Table.told(text=str(table)), table)

    def test_stretches_by_row_and_column(self):
        table = crop()
        for name, stretches in CROP_ROWS:
            for column, stretch in zip(("dry", "wet"), stretches):
                self.assertEqual(table.stretch(name, column), stretch)

    def test_least_and_greatest_tables(self):
        least = Table(("a",), (("z", ((-10000, 10000),)),))
        self.assertEqual((least.columns, least.names, len(least)), (("a",), ("z",), 1))
        stretches = ((-10000, -10000), (10000, 10000), (0, 0), (-1, 1))
        rows = tuple((letter * 8, stretches) for letter in "abcdefgh")
        greatest = Table(("aaaaaaaa", "zzzzzzzz", "m", "no"), rows)
        self.assertEqual((greatest.rows, len(greatest)), (rows, 8))

    def test_a_row_may_have_the_name_of_a_column(self):
        self.assertEqual(Table(("dry",), (("dry", ((1, 2),)),)).names, ("dry",))

    def test_a_table_is_true(self):
        self.assertTrue(crop())
        self.assertIs(bool(table_of(1)), True)

    def test_tables_do_not_change(self):
        table = crop()
        for name in ("columns", "rows", "names"):
            with self.subTest(name=name), self.assertRaises(AttributeError):
                setattr(table, name, ())
        self.assertEqual(table, crop())


class EqualityTest(Case):
    def test_equal_texts_are_equal_tables(self):
        self.assertTrue(crop() == Table(("dry", "wet"), CROP_ROWS))
        self.assertFalse(crop() != Table(("dry", "wet"), CROP_ROWS))

    def test_other_texts_are_other_tables(self):
        others = [
            bar(), crop().without("pea"), crop().changed("rye", "dry", (2, 5)), crop().changed("rye", "dry", (1, 4)),
            Table(("wet", "dry"), CROP_ROWS), Table(("dry", "we"), CROP_ROWS), Table(("dry", "wet"), CROP_ROWS[::-1]),
            Table(("dry", "wet"), (("ry", CROP_ROWS[0][1]), *CROP_ROWS[1:])),
        ]
        for other in others:
            with self.subTest(text=str(other)):
                self.assertFalse(crop() == other)
                self.assertTrue(crop() != other)
                self.assertFalse(other == crop())

    def test_a_table_is_equal_to_nothing_else(self):
        table = crop()
        for value in [*odd_values(), str(table), table.rows, (table.columns, table.rows), (table,), [table]]:
            with self.subTest(kind=value.__class__.__name__):
                self.assertIs(table == value, False)
                self.assertIs(table != value, True)


class WrongColumnsTest(Case):
    def test_what_is_no_tuple_or_empty(self):
        for value in odd_values():
            if not isinstance(value, tuple) or value == ():
                self.assert_index(InvalidColumns, None, Table, value, CROP_ROWS)
        self.assert_index(InvalidColumns, None, Table, ["dry", "wet"], CROP_ROWS)
        self.assert_index(InvalidColumns, None, Table, "dw", CROP_ROWS)

    def test_the_first_that_is_no_name(self):
        wrong = odd_values() + ["", "A", "dry1", "d-y", "dr y", "d\u00e9", "\u00aa", "dry\n", "abcdefghi", ("dry",)]
        for value in wrong:
            with self.subTest(kind=value.__class__.__name__):
                self.assert_index(InvalidColumns, 0, Table, (value, "wet"), CROP_ROWS)
                self.assert_index(InvalidColumns, 1, Table, ("dry", value), CROP_ROWS)
                self.assert_index(InvalidColumns, 1, Table, ("dry", value, value, "dry"), CROP_ROWS)

    def test_the_same_as_one_ahead(self):
        self.assert_index(InvalidColumns, 1, Table, ("dry", "dry"), CROP_ROWS)
        self.assert_index(InvalidColumns, 3, Table, ("dry", "wet", "mild", "wet"), CROP_ROWS)
        self.assert_index(InvalidColumns, 1, Table, ("dry", "dry", 3), CROP_ROWS)

    def test_a_fifth_one(self):
        self.assert_index(InvalidColumns, 4, Table, ("a", "b", "c", "d", "e"), CROP_ROWS)
        self.assert_index(InvalidColumns, 4, Table, ("a", "b", "c", "d", None, "f"), CROP_ROWS)
        self.assert_index(InvalidColumns, 2, Table, ("a", "b", "a", "d", "e"), CROP_ROWS)

    def test_columns_are_looked_at_ahead_of_rows(self):
        self.assert_index(InvalidColumns, None, Table, (), ())
        self.assert_index(InvalidColumns, 0, Table, (1,), None)
        self.assert_index(InvalidColumns, 1, Table, rows=None, columns=("a", "a"))


class WrongRowsTest(Case):
    def assert_wrong_row(self, row):
        good = ("rye", ((2, 4), (1, 3)))
        self.assert_index(InvalidRows, 0, Table, ("dry", "wet"), (row, good))
        self.assert_index(InvalidRows, 1, Table, ("dry", "wet"), (good, row))
        self.assert_index(InvalidRows, 1, Table, ("dry", "wet"), (good, row, row, good))
        self.assert_index(InvalidRows, 1, Table(("dry", "wet"), (good,)).more, row)

    def test_what_is_no_tuple_or_empty(self):
        for value in odd_values():
            self.assert_index(InvalidRows, None, Table, ("dry", "wet"), value)
        self.assert_index(InvalidRows, None, Table, ("dry", "wet"), list(CROP_ROWS))
        self.assert_index(InvalidRows, None, Table, ("dry", "wet"), dict(CROP_ROWS))

    def test_what_is_no_pair(self):
        pair = ("oat", ((0, 1), (3, 5)))
        for row in [*odd_values(), list(pair), dict([pair]), pair[:1], pair[1:], (*pair, None), pair[::-1]]:
            self.assert_wrong_row(row)

    def test_what_has_no_name(self):
        for name in [*odd_values(), "", "Oat", "oat ", "oat2", "oatoatoat", ("oat",), ["oat"], b"oat"]:
            self.assert_wrong_row((name, ((0, 1), (3, 5))))

    def test_what_has_no_tuple_of_stretches(self):
        for stretches in [*odd_values(), [(0, 1), (3, 5)], {(0, 1): (3, 5)}, ((0, 1), [3, 5]), ([0, 1], (3, 5))]:
            self.assert_wrong_row(("oat", stretches))

    def test_what_has_another_number_of_stretches(self):
        for many in (0, 1, 3, 4):
            self.assert_wrong_row(("oat", ((0, 1),) * many))

    def test_what_has_no_stretch_in_a_place(self):
        wrong = [
            *odd_values(), (), (1,), (1, 2, 3), [1, 2], {1: 2}, (2, 1), (-10001, 0), (0, 10001), (10001, 10001),
            (-10 ** 60, 10 ** 60), (0, 10 ** 99), (-10 ** 99, 0), ((1, 1), (2, 1)), "12", b"12",
        ]
        for stretch in wrong:
            self.assert_wrong_row(("oat", (stretch, (3, 5))))
            self.assert_wrong_row(("oat", ((3, 5), stretch)))

    def test_what_has_no_integer_as_an_end(self):
        for value in odd_numbers():
            self.assert_wrong_row(("oat", ((value, 1), (3, 5))))
            self.assert_wrong_row(("oat", ((0, value), (3, 5))))
            self.assert_wrong_row(("oat", ((3, 5), (value, value))))

    def test_the_name_of_one_ahead(self):
        rows = tuple((name, ((0, 1), (2, 3))) for name in ("a", "b", "c", "b"))
        self.assert_index(InvalidRows, 3, Table, ("x", "y"), rows)
        self.assert_index(InvalidRows, 1, Table, ("x", "y"), (rows[0], rows[0], None))

    def test_a_ninth_one(self):
        rows = tuple((letter, ((0, 1), (2, 3))) for letter in "abcdefghij")
        self.assertEqual(len(Table(("x", "y"), rows[:8])), 8)
        self.assert_index(InvalidRows, 8, Table, ("x", "y"), rows[:9])
        self.assert_index(InvalidRows, 8, Table, ("x", "y"), (*rows[:8], Refusing()))
        self.assert_index(InvalidRows, 2, Table, ("x", "y"), (*rows[:2], None, *rows[2:]))

    def test_rows_for_other_columns(self):
        self.assert_index(InvalidRows, 0, Table, ("x",), CROP_ROWS)
        self.assert_index(InvalidRows, 0, Table, ("x", "y", "z"), CROP_ROWS)


class WrongPlaceTest(Case):
    def test_unknown_names(self):
        for name in [*odd_values(), "ry", "dry", "rye ", ("rye",), ["rye"], b"rye", Agreeing(), Plain()]:
            self.assert_given(UnknownName, name, crop().stretch, name, "dry")
            self.assert_given(UnknownName, name, crop().stretch, column=None, name=name)

    def test_columns_that_are_none(self):
        for column in [None, True, 0, "", "rye", "dry wet", ("dry",), ["dry"], {}, b"dry", Agreeing(), Refusing()]:
            self.assert_given(InvalidColumn, column, crop().stretch, "rye", column)

    def test_the_name_is_looked_at_ahead_of_the_column(self):
        self.assert_given(UnknownName, 3, crop().stretch, 3, None)


if __name__ == "__main__":
    unittest.main()
