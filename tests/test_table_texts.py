"""The text of a table, and what is the text of none."""

import itertools
import unittest

from cornersure.errors import InvalidText
from cornersure.tables import Table
from tests.samples import Case, bar, crop, odd_values, table_of

CROP_TEXT = "dry wet\nrye 2 4 1 3\noat 0 1 3 5\npea 1 1 1 2"


class TextTest(Case):
    def test_the_text(self):
        self.assertEqual(str(crop()), CROP_TEXT)
        self.assertEqual(str(bar()), "sweet sour\nash 0 2 0 2\nbay 8 9 0 3\nelm 0 1 8 9\nfig 7 9 7 9")
        self.assertEqual(str(Table(("a",), (("z", ((-10000, 10000),)),))), "a\nz -10000 10000")

    def test_the_text_tells_an_equal_table(self):
        ends = (-10000, -9999, -1, 0, 1, 10, 9999, 10000)
        stretches = [(low, high) for low, high in itertools.product(ends, ends) if low <= high]
        tables = [crop(), bar(), *[table_of(many) for many in range(1, 9)]]
        tables += [Table(("a",), (("b", (stretch,)),)) for stretch in stretches]
        tables += [Table(tuple("abcd"[:many]), (("b", tuple(stretches[:many])),)) for many in range(1, 5)]
        for table in tables:
            told = Table.told(str(table))
            self.assertEqual(told, table)
            self.assertEqual((told.columns, told.rows), (table.columns, table.rows))
            self.assertEqual(str(told), str(table))

    def test_the_greatest_table(self):
        names = [letter * 8 for letter in "abcdefgh"]
        text = "\n".join(["aaaaaaaa b c dd", *[name + " -10000 10000" * 4 for name in names]])
        table = Table.told(text)
        self.assertEqual((str(table), table.names), (text, tuple(names)))
        self.assertEqual(table.rows[7], ("h" * 8, ((-10000, 10000),) * 4))

    def test_told_numbers_are_integers(self):
        for _, stretches in Table.told(CROP_TEXT).rows:
            for end in itertools.chain(*stretches):
                self.assertIs(end.__class__, int)


class WrongTextTest(Case):
    def assert_no_text(self, text):
        with self.subTest(text=text if isinstance(text, str) else text.__class__.__name__):
            self.assert_given(InvalidText, text, Table.told, text)

    def test_what_is_no_string(self):
        for value in [*odd_values(), CROP_TEXT.encode(), [CROP_TEXT], (CROP_TEXT,), CROP_TEXT.split("\n"), crop()]:
            self.assert_no_text(value)

    def test_spaces_and_newlines_too_many(self):
        for at in range(len(CROP_TEXT) + 1):
            for sign in " \n\t\r":
                self.assert_no_text(CROP_TEXT[:at] + sign + CROP_TEXT[at:])

    def test_spaces_and_newlines_too_few(self):
        for at, sign in enumerate(CROP_TEXT):
            if sign in " \n":
                self.assert_no_text(CROP_TEXT[:at] + CROP_TEXT[at + 1:])
                self.assert_no_text(CROP_TEXT[:at] + ("\n" if sign == " " else " ") + CROP_TEXT[at + 1:])
                self.assert_no_text(CROP_TEXT[:at] + "\t" + CROP_TEXT[at + 1:])

    def test_newlines_of_other_kinds(self):
        for newline in ("\r\n", "\r", "\n\n", "\n ", " \n", "\v", "\f", "\u2028"):
            self.assert_no_text(CROP_TEXT.replace("\n", newline))
            self.assert_no_text(CROP_TEXT + newline)

    def test_numbers_that_python_does_not_write_so(self):
        wrong = [
            "-0", "+1", "+0", "00", "01", "-01", "0001", "1.0", "1e0", "1_0", "0x1", "--1", "-", "+", "", "one", "1a",
            "\u0661", "\u00b2", "\uff11", "True", "None", "1,", "(1", "1" * 5000, "-" + "0" * 5000, "\u22121",
        ]
        for word in wrong:
            self.assert_no_text(f"a\nb {word} 5")
            self.assert_no_text(f"a\nb -5 {word}")
            self.assert_no_text(f"a b\nb 1 2 {word} 5")

    def test_words_missing_or_too_many(self):
        lines = CROP_TEXT.split("\n")
        for at, line in enumerate(lines):
            words = line.split(" ")
            for place, word in enumerate(words):
                for left in (words[:place] + words[place + 1:], words[:place] + [word] + words[place:]):
                    self.assert_no_text("\n".join([*lines[:at], " ".join(left), *lines[at + 1:]]))

    def test_rows_missing_or_twice(self):
        lines = CROP_TEXT.split("\n")
        self.assert_no_text(lines[0])
        self.assert_no_text("\n".join(lines[1:]))
        for line in lines:
            self.assert_no_text("\n".join([*lines, line]))
        self.assert_no_text("\n".join([lines[0], *lines]))

    def test_too_many_rows_and_columns(self):
        text = str(table_of(8))
        self.assertEqual(len(Table.told(text)), 8)
        self.assert_no_text(text + "\nnew 0 1 2 3")
        self.assertEqual(Table.told("a b c d\nx 1 2 1 2 1 2 1 2").columns, ("a", "b", "c", "d"))
        self.assert_no_text("a b c d e\nx 1 2 1 2 1 2 1 2 1 2")

    def test_names_that_are_none(self):
        for name in ("", "Rye", "rye1", "r-e", "ryeryerye", "1", "r\u00fc", "rye:", "\u017f"):
            self.assert_no_text(CROP_TEXT.replace("rye", name))
            self.assert_no_text(CROP_TEXT.replace("dry", name))

    def test_names_twice(self):
        self.assert_no_text(CROP_TEXT.replace("wet", "dry"))
        self.assert_no_text(CROP_TEXT.replace("pea", "rye"))

    def test_numbers_beyond_the_bounds(self):
        for low, high in ((-10001, 0), (0, 10001), (10001, 10001), (-10 ** 9, 10 ** 9), (2, 1), (0, -1), (-1, -2)):
            self.assert_no_text(f"a\nb {low} {high}")

    def test_other_texts(self):
        for text in ("", " ", "\n", "a", "a\n", "a\nb", "a\nb 1", "a\nb 1 2 3", "a\n 1 2", "dry wet;rye 2 4 1 3"):
            self.assert_no_text(text)

    def test_argument_by_name(self):
        self.assert_given(InvalidText, None, Table.told, text=None)


if __name__ == "__main__":
    unittest.main()
