"""Boards, beside an own list of tables."""

import random
import unittest

from cornersure.boards import Board
from cornersure.errors import (
    InvalidColumn, InvalidRows, InvalidStretch, NotATable, NotPossible, TooFew, UnknownName, WrongName, WrongValue)
from cornersure.tables import Table
from tests.calls import wrong_stretches
from tests.drawn import any_stretch, any_table, greatest_tables
from tests.samples import Case, Plain, Refusing, bar, crop, odd_values, table_of
from tests.trials import TrialsCase

BEAN = ("bean", ((0, 0), (9, 9)))


def own_change(table, name, column, stretch):
    at = table.columns.index(column)
    return Table(table.columns, tuple((row, (*stretches[:at], stretch, *stretches[at + 1:]) if row == name else stretches)
                                      for row, stretches in table.rows))


class DeedsTest(Case):
    def test_what_was_passed_is_there(self):
        table = crop()
        board = Board(table)
        self.assertEqual((board.now, board.changes), (crop(), 0))
        self.assertEqual(Board(table=bar()).now, bar())
        for name in ("now", "changes"):
            with self.assertRaises(AttributeError):
                setattr(board, name, 1)

    def test_each_deed(self):
        board = Board(crop())
        self.assertIsNone(board.narrow("rye", "dry", (3, 4)))
        self.assertEqual(str(board.now), "dry wet\nrye 3 4 1 3\noat 0 1 3 5\npea 1 1 1 2")
        self.assertIsNone(board.change("oat", "wet", (-9, 9)))
        self.assertEqual(str(board.now), "dry wet\nrye 3 4 1 3\noat 0 1 -9 9\npea 1 1 1 2")
        self.assertIsNone(board.put(BEAN))
        self.assertEqual(board.now.rows[3], BEAN)
        self.assertIsNone(board.drop("rye"))
        self.assertEqual((board.now.names, board.changes), (("oat", "pea", "bean"), 4))
        self.assertIsNone(board.undo())
        self.assertEqual((board.now.names, board.changes), (("rye", "oat", "pea", "bean"), 3))

    def test_by_name(self):
        board = Board(crop())
        board.narrow(stretch=(2, 2), column="dry", name="rye")
        board.change(column="wet", stretch=(7, 8), name="rye")
        board.put(row=BEAN)
        board.drop(name="oat")
        self.assertEqual(str(board.now), "dry wet\nrye 2 2 7 8\npea 1 1 1 2\nbean 0 0 9 9")

    def test_beside_a_list_of_tables(self):
        source, seen = random.Random(281), {}
        for _ in range(60):
            tables = [any_table(source)]
            board = Board(tables[0])
            for _ in range(40):
                kind = self.do_something(source, board, tables)
                seen[kind] = seen.get(kind, 0) + 1
                self.assertEqual((board.now, board.changes), (tables[-1], len(tables) - 1))
                self.assertEqual(str(board.now), str(tables[-1]))
        self.assertEqual(set(seen), {"narrow", "change", "put", "drop", "undo", "refused"})
        self.assertGreater(min(seen.values()), 50)

    def do_something(self, source, board, tables):
        now, kind = tables[-1], source.choice(("narrow", "change", "put", "drop", "undo"))
        name, column = source.choice(now.names), source.choice(now.columns)
        low, high = now.stretch(name, column)
        try:
            if kind == "narrow":
                stretch = tuple(sorted((source.randint(low, high), source.randint(low, high))))
                board.narrow(name, column, stretch)
                tables.append(own_change(now, name, column, stretch))
            elif kind == "change":
                stretch = source.choice((any_stretch(source), (low, high)))
                board.change(name, column, stretch)
                tables.append(own_change(now, name, column, stretch))
            elif kind == "put":
                row = (source.choice("abcdefghij"), tuple(any_stretch(source) for _ in now.columns))
                board.put(row)
                tables.append(Table(now.columns, (*now.rows, row)))
            elif kind == "drop":
                board.drop(name)
                tables.append(Table(now.columns, tuple(row for row in now.rows if row[0] != name)))
            else:
                board.undo()
                tables.pop()
        except (WrongValue, WrongName, NotPossible):
            return "refused"
        return kind

    def test_a_change_by_which_nothing_became_other(self):
        board = Board(crop())
        board.narrow("rye", "dry", (2, 4))
        board.change("rye", "dry", (2, 4))
        self.assertEqual((board.now, board.changes), (crop(), 2))
        board.undo()
        self.assertEqual((board.now, board.changes), (crop(), 1))
        board.undo()
        self.assertEqual((board.now, board.changes), (crop(), 0))

    def test_two_boards_of_one_table(self):
        table = crop()
        one, other = Board(table), Board(table)
        one.drop("rye")
        self.assertEqual((other.now, other.changes, table), (crop(), 0, crop()))

    def test_greatest_tables_and_many_changes(self):
        for table in greatest_tables(random.Random(282)):
            board = Board(table)
            for at in range(2000):
                board.change("a", "w", (at, at))
            self.assertEqual((board.changes, board.now.stretch("a", "w")), (2000, (1999, 1999)))
            self.assert_index(InvalidRows, 8, board.put, ("i", ((0, 0),) * 4))
            for _ in range(2000):
                board.undo()
            self.assertEqual(board.now, table)


class ErrorsTest(Case):
    def assert_same(self, board, tables):
        self.assertEqual((board.now, board.changes), (tables[-1], len(tables) - 1))

    def test_what_is_no_table(self):
        for value in [*odd_values(), str(crop()), crop().rows, [crop()], (crop(),), Board(crop())]:
            self.assert_given(NotATable, value, Board, value)

    def test_stretches(self):
        board, tables = Board(crop()), [crop(), crop().changed("rye", "dry", (2, 4))]
        board.narrow("rye", "dry", (2, 4))
        beyond = ((1, 4), (2, 5), (1, 5), (5, 5), (1, 1), (-10000, 10000), (4, 10000), (0, 2))
        for stretch in [*wrong_stretches(10000), *beyond]:
            self.assert_given(InvalidStretch, stretch, board.narrow, "rye", "dry", stretch)
            self.assert_same(board, tables)
        for stretch in wrong_stretches(10000):
            self.assert_given(InvalidStretch, stretch, board.change, "rye", "dry", stretch)
            self.assert_same(board, tables)
        for stretch in ((2, 2), (4, 4), (3, 4), (2, 4)):
            self.assertIsNone(Board(crop()).narrow("rye", "dry", stretch))
        # What was narrowed cannot be widened again.
        board.narrow("rye", "dry", (3, 3))
        for stretch in ((2, 4), (2, 3), (3, 4)):
            self.assert_given(InvalidStretch, stretch, board.narrow, "rye", "dry", stretch)
        board.change("rye", "dry", (2, 4))
        self.assertEqual(board.changes, 3)

    def test_names_and_columns(self):
        board = Board(crop())
        for name in [*odd_values(), "ry", "dry", ["rye"], ("rye",), b"rye", Refusing()]:
            for deed in (board.narrow, board.change):
                self.assert_given(UnknownName, name, deed, name, None, None)
                self.assert_given(UnknownName, name, deed, name, "dry", (3, 3))
            self.assert_given(UnknownName, name, board.drop, name)
            self.assert_same(board, [crop()])
        for column in [*odd_values(), "rye", ["dry"], ("dry",), b"dry"]:
            for deed in (board.narrow, board.change):
                self.assert_given(InvalidColumn, column, deed, "rye", column, None)
                self.assert_given(InvalidColumn, column, deed, "rye", column, (3, 3))
            self.assert_same(board, [crop()])

    def test_rows(self):
        wrong = [*odd_values(), list(BEAN), BEAN[:1], (*BEAN, 1), ("rye", BEAN[1]), ("bean", BEAN[1][:1]), BEAN[::-1],
                 ("bean", list(BEAN[1])), ("Bean", BEAN[1]), ("bean", ((1, 0), (9, 9))), ("bean", ((0, 0), (9, 10001)))]
        board = Board(crop())
        for row in wrong:
            self.assert_index(InvalidRows, 3, board.put, row)
        self.assert_same(board, [crop()])
        self.assert_index(InvalidRows, 8, Board(table_of(8)).put, ("z", ((0, 1), (2, 3))))

    def test_the_only_row(self):
        board = Board(table_of(2))
        board.drop("a")
        self.assert_given_equal(TooFew, 0, board.drop, "b")
        self.assert_given(UnknownName, "a", board.drop, "a")
        self.assertEqual((board.now.names, board.changes), (("b",), 1))


class BoardTrialsTest(TrialsCase):
    def made(self):
        return Board(crop())

    def deeds(self):
        return [lambda board: board.narrow("rye", "dry", (3, 4)), lambda board: board.put(BEAN),
                lambda board: board.change("bean", "wet", (9, 9)), lambda board: board.drop("oat"),
                lambda board: board.change("pea", "wet", (-5, 5))]

    def refused(self):
        return [lambda board: board.narrow("rye", "dry", (2, 4)), lambda board: board.put(BEAN),
                lambda board: board.change("bean", "wat", (9, 9)), lambda board: board.drop("oat"),
                lambda board: board.change("pea", "wet", Plain())]

    def shown(self, board):
        return str(board.now), board.changes

    def test_trials(self):
        self.assert_all_of_trials()

    def test_equality_and_truth(self):
        self.assert_equal_to_itself_alone()

    def test_nothing_to_undo(self):
        self.assert_nothing_to_undo()


if __name__ == "__main__":
    unittest.main()
