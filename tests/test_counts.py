"""Counts: what makes them, their texts."""

import random
import unittest

from cornersure.errors import InvalidCounts, InvalidText
from cornersure.seats import Counts
from tests.calls import wrong_stretches
from tests.drawn import any_counts
from tests.samples import Case, Plain, Refusing, crop, odd_values
from tests.test_webs import yard
from tests.texts import with_numbers_changed, with_spaces_changed, with_words_changed

PARTS = (("p", (50, 60)), ("q", (30, 40)), ("r", (10, 20)))
TEXT = "p 50 60\nq 30 40\nr 10 20"


def poll():
    return Counts(PARTS)


def wrong_parts_of(good):
    name, stretch = good
    wrong = [*odd_values(), list(good), (name,), (*good, 1), good[::-1], (good,), name, (name, *stretch)]
    wrong += [(value, stretch) for value in [*odd_values(), "P", "p ", "p1", "pppppppppp", ("p",), b"p", "p\n"]]
    return wrong + [(name, value) for value in wrong_stretches(1000, 0)]


class MakingTest(Case):
    def test_what_was_passed_comes_back(self):
        counts = poll()
        self.assertEqual((counts.parts, counts.names, counts.text, str(counts), len(counts)),
                         (PARTS, ("p", "q", "r"), TEXT, TEXT, 3))
        self.assertEqual([value.__class__ for value in (counts.parts, counts.names, counts.text)], [tuple, tuple, str])
        self.assertEqual(Counts(parts=PARTS), counts)

    def test_least_and_greatest_counts(self):
        least = Counts((("a", (0, 0)), ("aa", (0, 0))))
        self.assertEqual((least.text, len(least)), ("a 0 0\naa 0 0", 2))
        greatest = Counts(tuple((letter * 8, (0, 1000)) for letter in "abcyz"))
        self.assertEqual((len(greatest), Counts.told(greatest.text)), (5, greatest))

    def test_counts_are_true_and_do_not_change(self):
        counts = poll()
        self.assertIs(bool(counts), True)
        for name in ("parts", "names", "text"):
            with self.assertRaises(AttributeError):
                setattr(counts, name, ())
        self.assertEqual(counts, poll())

    def test_equality(self):
        self.assertIs(poll() == Counts(PARTS), True)
        self.assertIs(poll() != Counts(PARTS), False)
        others = [Counts(PARTS[:2]), Counts((("o", (50, 60)), *PARTS[1:])), Counts((*PARTS[:2], ("r", (10, 21))))]
        for value in [*others, *odd_values(), TEXT, PARTS, (PARTS,), (poll(),), crop(), yard()]:
            self.assertIs(poll() == value, False)
            self.assertIs(poll() != value, True)


class WrongCountsTest(Case):
    def test_what_is_no_tuple_or_has_fewer_than_two(self):
        for value in [*odd_values(), list(PARTS), dict(PARTS), TEXT, PARTS[:1], (None,), (Plain(),)]:
            self.assert_index(InvalidCounts, None, Counts, value)

    def test_the_first_that_is_no_part(self):
        for part in wrong_parts_of(PARTS[0]):
            self.assert_index(InvalidCounts, 0, Counts, (part, *PARTS[1:]))
            self.assert_index(InvalidCounts, 2, Counts, (*PARTS[:2], part, PARTS[2], part))
        self.assert_index(InvalidCounts, 0, Counts, (None, None))

    def test_names_that_do_not_ascend(self):
        for names, index in (("a a", 1), ("b a", 1), ("a b b", 2), ("a c b", 2), ("ab aa", 1), ("aa a", 1), ("b bb ba", 2),
                             ("a b c d d", 4), ("a b a b a", 2)):
            parts = tuple((name, (1, 2)) for name in names.split())
            self.assert_index(InvalidCounts, index, Counts, parts)
            self.assert_index(InvalidCounts, index, Counts, (*parts[:index + 1], None))
        self.assertEqual(len(Counts(tuple((name, (1, 2)) for name in "a aa ab b".split()))), 4)

    def test_a_sixth_one(self):
        parts = tuple((letter, (0, 1)) for letter in "abcde")
        for part in (("f", (0, 1)), ("a", (0, 1)), None, Refusing(), Plain()):
            self.assert_index(InvalidCounts, 5, Counts, (*parts, part))
        self.assert_index(InvalidCounts, 1, Counts, (parts[0], None, *parts))


class TextTest(Case):
    def test_the_text_tells_equal_counts(self):
        source = random.Random(261)
        for _ in range(100):
            counts = any_counts(source)
            after = Counts.told(counts.text)
            self.assertEqual(after, counts)
            self.assertEqual((after.parts, str(after)), (counts.parts, str(counts)))
        self.assertEqual(Counts.told(text=TEXT).parts[2][1][1].__class__, int)

    def test_what_is_no_text(self):
        wrong = [*odd_values(), TEXT.encode(), [TEXT], TEXT.split("\n"), poll(), "p 50 60", "p 50 60\n", "p 50 60\np 50 60"]
        wrong += ["q 1 2\np 1 2", "p 2 1\nq 1 2", "p -1 0\nq 1 2", "p 0 1001\nq 1 2", "p 1\nq 1", "p 1 2 3\nq 1 2",
                  "P 1 2\nq 1 2", "p 1 2\nq 1 2 3 4", "1 2\n3 4", " 1 2\nq 1 2", "p 1 2\nninelette 1 2", "p q 1 2\nr 1 2",
                  "\n".join(f"{letter} 1 2" for letter in "abcdef"), "p (1, 2)\nq (1, 2)", "p 1,2\nq 1,2"]
        # The first line is a part, too.
        for changed in (with_spaces_changed, with_words_changed, with_numbers_changed):
            wrong += [text.removeprefix("p\n") for text in changed("p\n" + TEXT) if text.startswith("p\n")]
        lines = TEXT.split("\n")
        wrong += ["\n".join([*lines[:at], line, *lines[at:]]) for at, line in enumerate(lines)]
        wrong += ["\n".join([*lines[:at], lines[at + 1], lines[at], *lines[at + 2:]]) for at in range(2)]
        for text in wrong:
            self.assert_given(InvalidText, text, Counts.told, text)


if __name__ == "__main__":
    unittest.main()
