"""New tables from a table: `changed`, `more`, `without`."""

import unittest

from cornersure.errors import InvalidColumn, InvalidRows, InvalidStretch, TooFew, UnknownName
from cornersure.tables import Table
from tests.samples import Agreeing, Case, Refusing, bar, crop, odd_numbers, odd_values, table_of


class ChangedTest(Case):
    def test_each_place_by_itself(self):
        for name in crop().names:
            for column in crop().columns:
                table = crop()
                after = table.changed(name, column, (-7, 9))
                self.assertEqual(table, crop())
                self.assertIs(after.__class__, Table)
                for row in table.names:
                    for place in table.columns:
                        here = (row, place) == (name, column)
                        self.assertEqual(after.stretch(row, place), (-7, 9) if here else table.stretch(row, place))
                self.assertEqual((after.names, after.columns), (table.names, table.columns))

    def test_the_text(self):
        self.assertEqual(str(crop().changed("oat", "wet", (-1, 0))), "dry wet\nrye 2 4 1 3\noat 0 1 -1 0\npea 1 1 1 2")

    def test_the_same_stretch(self):
        self.assertEqual(crop().changed("rye", "dry", (2, 4)), crop())

    def test_the_least_and_greatest_ends(self):
        for stretch in ((-10000, -10000), (-10000, 10000), (10000, 10000), (0, 0)):
            self.assertEqual(crop().changed("rye", "dry", stretch).stretch("rye", "dry"), stretch)

    def test_arguments_by_name(self):
        after = crop().changed(stretch=(5, 6), column="wet", name="pea")
        self.assertEqual(after, crop().changed("pea", "wet", (5, 6)))

    def test_unknown_names_come_first(self):
        for name in [*odd_values(), "ry", "dry", ["rye"], ("rye",)]:
            self.assert_given(UnknownName, name, crop().changed, name, "dry", (1, 2))
            self.assert_given(UnknownName, name, crop().changed, name, None, None)

    def test_columns_that_are_none_come_next(self):
        for column in [None, True, 1, "", "rye", ("dry",), ["dry"], {}, b"dry", Agreeing(), Refusing()]:
            self.assert_given(InvalidColumn, column, crop().changed, "rye", column, (1, 2))
            self.assert_given(InvalidColumn, column, crop().changed, "rye", column, None)

    def test_what_is_no_stretch(self):
        wrong = [
            *odd_values(), [1, 2], (1,), (1, 2, 3), (2, 1), (-10001, 0), (0, 10001), (10 ** 99, 10 ** 99), {1: 2}, "12",
        ]
        wrong += [(value, 1) for value in odd_numbers()] + [(0, value) for value in odd_numbers()]
        for stretch in wrong:
            table = crop()
            self.assert_given(InvalidStretch, stretch, table.changed, "rye", "dry", stretch)
            self.assertEqual(table, crop())


class MoreTest(Case):
    def test_a_row_behind_the_others(self):
        table, row = crop(), ("bean", ((0, 0), (9, 9)))
        after = table.more(row)
        self.assertEqual(after.rows, (*table.rows, row))
        self.assertEqual(after.names, ("rye", "oat", "pea", "bean"))
        self.assertEqual(table, crop())
        self.assertEqual(crop().more(row=row), after)

    def test_rows_that_do_not_give_a_table(self):
        good = ("bean", ((0, 0), (9, 9)))
        wrong = [
            *odd_values(), list(good), good[:1], (*good, 1), ("rye", good[1]), ("bean", good[1][:1]), good[::-1],
            ("bean", (*good[1], (1, 1))), ("bean", list(good[1])), ("Bean", good[1]), ("bean", ((1, 0), (9, 9))),
            ("bean", ((False, 0), (9, 9))), ("bean", ((0, 0), (9, 10001))), ("bean", ((0, 0), [9, 9])), (None, good[1]),
        ]
        for row in wrong:
            for table in (crop(), crop().without("pea")):
                self.assert_index(InvalidRows, len(table), table.more, row)

    def test_a_ninth_row(self):
        self.assertEqual(len(table_of(7).more(("z", ((0, 0), (1, 1))))), 8)
        self.assert_index(InvalidRows, 8, table_of(8).more, ("z", ((0, 0), (1, 1))))
        self.assert_index(InvalidRows, 8, table_of(8).more, None)


class WithoutTest(Case):
    def test_each_row(self):
        for table in (crop(), bar()):
            for name in table.names:
                after = table.without(name)
                self.assertEqual(after.rows, tuple(row for row in table.rows if row[0] != name))
                self.assertEqual((after.columns, len(after)), (table.columns, len(table) - 1))
        table = crop()
        table.without(name="oat")
        self.assertEqual(table, crop())

    def test_more_and_without_take_each_other_back(self):
        row = ("bean", ((0, 0), (9, 9)))
        self.assertEqual(crop().more(row).without("bean"), crop())
        self.assertEqual(str(crop().without("pea").more(crop().rows[2])), str(crop()))

    def test_the_only_row(self):
        self.assert_given_equal(TooFew, 0, table_of(1).without, "a")
        self.assertEqual(len(table_of(2).without("a")), 1)

    def test_unknown_names_come_first(self):
        for name in [*odd_values(), "z", ("a",), ["a"]]:
            self.assert_given(UnknownName, name, table_of(1).without, name)
            self.assert_given(UnknownName, name, table_of(3).without, name)


if __name__ == "__main__":
    unittest.main()
