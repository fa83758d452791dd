"""Consoles: each form of line beside the functions that it calls, and lines that are none."""

import random
import unittest

from cornersure.boards import Board
from cornersure.console import Console
from cornersure.errors import (
    InvalidColumn, InvalidCommand, InvalidRows, InvalidStretch, InvalidWeights, NotATable, NothingToUndo, TooFew,
    UnknownName)
from cornersure.games import possible_saddles, worths
from cornersure.sums import foremost, never_below, sum_ends, surely_foremost
from cornersure.tables import Table
from tests.drawn import any_table, greatest_tables, small_table
from tests.samples import Case, bar, crop, odd_values, table_of
from tests.texts import NO_NUMBERS

COMMANDS = (
    "put bean 0 0 9 9", "narrow rye dry 3 4", "change oat wet -9 9", "drop oat", "undo", "rows", "worths", "saddles",
    "sum rye 1 -2", "foremost 1 2", "surely 1 2", "below oat pea", "below rye rye",
)


def words_of(names):
    return " ".join(names) or "none"


class AnswersTest(Case):
    def test_the_board(self):
        table = crop()
        console = Console(table)
        self.assertEqual((console.board.__class__, console.board.now, console.board.changes), (Board, table, 0))
        self.assertIs(console.board, console.board)
        self.assertEqual(Console(table=bar()).board.now, bar())
        self.assertEqual((bool(console), console == console, console == Console(table)), (True, True, False))
        for value in odd_values():
            self.assertIs(console == value, False)
        with self.assertRaises(AttributeError):
            console.board = 1
        for value in [*odd_values(), str(crop()), crop().rows, Board(crop())]:
            self.assert_given(NotATable, value, Console, value)

    def test_what_is_done_at_the_board(self):
        console, other = Console(crop()), Board(crop())
        deeds = (("put bean 0 0 9 9", lambda: other.put(("bean", ((0, 0), (9, 9))))),
                 ("narrow rye dry 3 4", lambda: other.narrow("rye", "dry", (3, 4))),
                 ("change oat wet -9 9", lambda: other.change("oat", "wet", (-9, 9))),
                 ("change oat wet -10000 10000", lambda: other.change("oat", "wet", (-10000, 10000))),
                 ("drop pea", lambda: other.drop("pea")), ("undo", other.undo), ("undo", other.undo),
                 ("drop rye", lambda: other.drop("rye")), ("undo", other.undo))
        for command, deed in deeds:
            self.assertEqual(console.say(command=command), "ok")
            deed()
            self.assertEqual((console.board.now, console.board.changes), (other.now, other.changes))
        console.board.change("rye", "dry", (7, 7))
        self.assertEqual(console.say("sum rye 1 0"), "7 7")

    def test_answers_by_the_functions(self):
        source, seen = random.Random(341), set()
        tables = [small_table(source, source.randint(1, 4), source.randint(1, 8)) for _ in range(80)]
        for table in [*tables, *[any_table(source) for _ in range(20)], *greatest_tables(source)]:
            console = Console(table)
            self.assertEqual(console.say("rows"), " ".join(table.names))
            low, high = worths(table)
            self.assertEqual(console.say("worths"), "/".join(map(str, low)) + " " + "/".join(map(str, high)))
            saddles = console.say("saddles")
            self.assertEqual(saddles, words_of(f"{row}:{column}" for row, column in possible_saddles(table)))
            weights = tuple(source.choice((0, 1, -1, source.randint(-1000, 1000))) for _ in table.columns)
            numbers = " ".join(map(str, weights))
            surely = console.say("surely " + numbers)
            self.assertEqual(console.say("foremost " + numbers), words_of(foremost(table, weights)))
            self.assertEqual(surely, words_of(surely_foremost(table, weights)))
            for name in table.names:
                low, high = sum_ends(table, name, weights)
                self.assertEqual(console.say(f"sum {name} {numbers}"), f"{low} {high}")
                for other in table.names:
                    is_below = console.say(f"below {name} {other}")
                    self.assertEqual(is_below, "yes" if never_below(table, name, other) else "no")
                    seen.add(is_below if name != other else None)
            self.assertEqual((console.board.now, console.board.changes), (table, 0))
            seen |= {("saddles", saddles == "none"), ("surely", surely == "none")}
        self.assertEqual(len(seen), 7)

    def test_by_hand(self):
        console = Console(Table.told("x\np 1 2\nq 0 1"))
        self.assertEqual([console.say(command) for command in ("worths", "saddles", "surely 1", "surely -1", "foremost -1")],
                         ["1/1 2/1", "p:x q:x", "p", "q", "p q"])
        self.assertEqual([console.say(command) for command in ("below p q", "below q p", "sum p -1000", "rows")],
                         ["yes", "no", "-2000 -1000", "p q"])
        console = Console(Table.told("x y\np 1 1 -1 -1\nq -1 -1 1 1"))
        self.assertEqual([console.say(command) for command in ("worths", "saddles", "surely 1 1", "foremost 0 0")],
                         ["0/1 0/1", "none", "p q", "p q"])
        self.assertEqual(Console(Table.told("x\np -3 -2\nq 0 5")).say("surely 0"), "p q")
        self.assertEqual(Console(Table.told("x\np -3 2\nq 0 5")).say("surely 1"), "none")


class RefusedTest(Case):
    def assert_nothing_changed(self, console, tables):
        self.assertEqual((console.board.now, console.board.changes), (tables[-1], len(tables) - 1))

    def test_values_that_are_no_lines(self):
        console = Console(crop())
        for command in [*odd_values(), b"rows", ["rows"], ("rows",), ("sum", "rye", 1, 2), {"rows": 1}]:
            self.assert_given(InvalidCommand, command, console.say, command)

    def test_lines_of_other_forms(self):
        console = Console(crop())
        for command in COMMANDS:
            words = command.split(" ")
            wrong = [command + " ", " " + command, command + "\n", "\n" + command, command.upper(), command + "\t", command + " x",
                     command.replace(" ", "  "), command.replace(" ", "\t"), command.replace(" ", "\n"), command + " -",
                     words[0] + "s " + " ".join(words[1:]), " ".join(words[1:]), words[0][:-1], command + ";", "x " + command,
                     command.capitalize(), command + " 1.5", command + "\r"]
            for at in range(1, len(words)):
                wrong.append(" ".join([*words[:at], "ninelette", *words[at + 1:]]))
                wrong.append(" ".join([*words[:at], "Rye", *words[at + 1:]]))
                wrong.append(" ".join([*words[:at], "", *words[at + 1:]]))
                wrong.append(" ".join([*words[:at], "rye1", *words[at + 1:]]))
            for line in wrong:
                if line != command and line not in COMMANDS:
                    self.assert_given(InvalidCommand, line, console.say, line)
        self.assert_nothing_changed(console, [crop()])

    def test_numbers(self):
        console = Console(crop())
        for word in [*NO_NUMBERS, "1000000", "-1000000", "0123456", "x", ""]:
            for line in (f"put bean 0 0 {word} 9", f"put bean {word}", f"narrow rye dry {word} 3", f"narrow rye dry 3 {word}",
                         f"change rye dry {word} 3", f"sum rye {word} 1", f"sum rye 1 {word}", f"foremost 1 {word}",
                         f"foremost {word} 1", f"surely {word} 1"):
                self.assert_given(InvalidCommand, line, console.say, line)
        self.assert_given_equal(InvalidStretch, (-999999, 999999), console.say, "change rye dry -999999 999999")
        self.assert_given_equal(InvalidWeights, (100000, -100000), console.say, "sum rye 100000 -100000")
        self.assert_nothing_changed(console, [crop()])

    def test_how_many_words(self):
        console = Console(crop())
        ones = [" ".join(["1"] * many) for many in range(12)]
        for line in ("put", "put bean", f"put bean {ones[9]}", "sum", "sum rye", f"sum rye {ones[9]}", "foremost", "surely",
                     f"foremost {ones[9]}", f"surely {ones[9]}", "narrow", "narrow rye", "narrow rye dry", "narrow rye dry 3",
                     "narrow rye dry 3 3 3", "change rye dry 3", "change rye dry 3 3 3", "drop", "drop rye rye", "undo 1",
                     "undo undo", "rows rye", "worths 1", "saddles x", "below", "below rye", "below rye oat pea", "", "say",
                     f"put bean bean {ones[4]}", f"foremost rye {ones[2]}", "sum 1 2", "narrow rye 3 3", "narrow 3 3", "drop 1"):
            self.assert_given(InvalidCommand, line, console.say, line)
        for many in (1, 3, 5, 6, 7, 8):
            self.assert_index(InvalidRows, 3, console.say, f"put bean {ones[many]}")
        for many in (1, 3, 4, 5, 6, 7, 8):
            for line in (f"sum rye {ones[many]}", f"foremost {ones[many]}", f"surely {ones[many]}"):
                self.assert_given_equal(InvalidWeights, (1,) * many, console.say, line)
        self.assert_nothing_changed(console, [crop()])

    def test_errors_of_what_is_called(self):
        console, tables = Console(crop()), [crop()]
        with self.assertRaises(NothingToUndo):
            console.say("undo")
        for line in ("narrow z dry 3 3", "change z z 9 3", "drop z", "sum z 1 2 3", "below z rye", "below z y", "drop dry"):
            self.assert_given_equal(UnknownName, line.split(" ")[1], console.say, line)
        self.assert_given_equal(UnknownName, "z", console.say, "below rye z")
        for line in ("narrow rye z 9 3", "change rye oat 3 3"):
            self.assert_given_equal(InvalidColumn, line.split(" ")[2], console.say, line)
        for line, stretch in (("narrow rye dry 1 3", (1, 3)), ("narrow rye dry 4 3", (4, 3)), ("change rye dry 4 3", (4, 3)),
                              ("change rye dry 0 10001", (0, 10001)), ("change rye dry -10001 0", (-10001, 0))):
            self.assert_given_equal(InvalidStretch, stretch, console.say, line)
        for line in ("put rye 0 0 9 9", "put bean 1 0 9 9", "put bean 0 10001 9 9", "put bean 0 0 9", "put bean 0 0 9 9 9 9"):
            self.assert_index(InvalidRows, 3, console.say, line)
        for line, weights in (("sum rye 1001 0", (1001, 0)), ("foremost 0 -1001", (0, -1001)), ("surely 1", (1,))):
            self.assert_given_equal(InvalidWeights, weights, console.say, line)
        self.assert_nothing_changed(console, tables)
        self.assert_index(InvalidRows, 8, Console(table_of(8)).say, "put z 0 1 2 3")
        self.assert_given_equal(TooFew, 0, Console(table_of(1)).say, "drop a")

    def test_four_columns(self):
        table = greatest_tables(random.Random(342))[0]
        console = Console(table.without("h"))
        self.assertEqual(console.say("put h -10000 10000 -1 1 0 0 5 6"), "ok")
        self.assertEqual(console.board.now.rows[7], ("h", ((-10000, 10000), (-1, 1), (0, 0), (5, 6))))


if __name__ == "__main__":
    unittest.main()
