"""Times: what makes them, their texts, times with facts more or less."""

import random
import unittest

from cornersure.errors import InvalidFacts, InvalidNumber, InvalidPoints, InvalidText
from cornersure.times import Times
from tests.calls import wrong_stretches
from tests.drawn import any_times
from tests.samples import Case, Plain, Refusing, crop, odd_numbers, odd_values
from tests.texts import with_numbers_changed, with_spaces_changed, with_words_changed

FACTS = (("a", "b", (2, 4)), ("b", "c", (1, 3)), ("a", "c", (6, 9)), ("c", "d", (0, 5)))
TEXT = "abcd\na b 2 4\nb c 1 3\na c 6 9\nc d 0 5"


def day():
    return Times("abcd", FACTS)


def wrong_letters():
    """What is no ascending string of two to six letters."""
    return [*odd_values(), "a", "ba", "aa", "aab", "abcdefg", "aB", "AB", "a b", "ab ", "ab\n", "a1", "a\u00e4",
            ("a", "b"), ["a", "b"], b"ab", {"a": 1, "b": 2}, "abcdcba", "zy"]


def wrong_facts(good):
    start, end, stretch = good
    wrong = [*odd_values(), list(good), good[:2], (*good, 1), good[::-1], (stretch, start, end), "ab", (good,)]
    wrong += [(value, end, stretch) for value in [*odd_values(), end, "z", "ab", "", (start,), [start], b"a", "A"]]
    wrong += [(start, value, stretch) for value in [*odd_values(), start, "z", "bc", "", (end,), [end], b"b", "B"]]
    return wrong + [(start, end, value) for value in wrong_stretches(1000)]


class MakingTest(Case):
    def test_what_was_passed_comes_back(self):
        times = day()
        self.assertEqual((times.points, times.facts, len(times), str(times)), ("abcd", FACTS, 4, TEXT))
        self.assertEqual([value.__class__ for value in (times.points, times.facts)], [str, tuple])
        self.assertEqual(Times(facts=FACTS, points="abcd"), times)

    def test_least_and_greatest_times(self):
        least = Times("az", ())
        self.assertEqual((least.points, least.facts, len(least), str(least)), ("az", (), 0, "az"))
        facts = (("z", "a", (-1000, 1000)), ("b", "z", (-1000, -1000)), ("a", "b", (1000, 1000))) * 4
        greatest = Times("abcxyz", facts)
        self.assertEqual((greatest.facts, len(greatest)), (facts, 12))
        self.assertEqual(Times.told(str(greatest)), greatest)

    def test_times_are_true_and_do_not_change(self):
        self.assertIs(bool(Times("ab", ())), True)
        times = day()
        for name in ("points", "facts"):
            with self.assertRaises(AttributeError):
                setattr(times, name, ())
        self.assertEqual(times, day())

    def test_equality(self):
        self.assertTrue(day() == Times("abcd", FACTS))
        self.assertFalse(day() != Times("abcd", FACTS))
        others = [
            Times("abcde", FACTS), Times("abcd", FACTS[:3]), Times("abcd", FACTS[::-1]),
            Times("abcd", (("a", "b", (2, 5)), *FACTS[1:])), Times("abcd", (("b", "a", (2, 4)), *FACTS[1:])),
        ]
        for value in [*others, *odd_values(), TEXT, FACTS, ("abcd", FACTS), (day(),), crop()]:
            self.assertIs(day() == value, False)
            self.assertIs(day() != value, True)


class WrongTimesTest(Case):
    def test_points(self):
        for value in wrong_letters():
            self.assert_given(InvalidPoints, value, Times, value, FACTS)
            self.assert_given(InvalidPoints, value, Times, value, None)
            self.assert_given(InvalidPoints, value, Times, facts=None, points=value)
        for points in ("ab", "abcdef", "uvwxyz", "az"):
            self.assertEqual(Times(points, ()).points, points)

    def test_facts_that_are_no_tuple(self):
        for value in [*odd_values(), list(FACTS), dict(enumerate(FACTS)), "ab"]:
            if not isinstance(value, tuple):
                self.assert_index(InvalidFacts, None, Times, "abcd", value)

    def test_the_first_that_is_no_fact(self):
        for fact in wrong_facts(FACTS[0]):
            self.assert_index(InvalidFacts, 0, Times, "abcd", (fact,))
            self.assert_index(InvalidFacts, 2, Times, "abcd", (*FACTS[:2], fact, FACTS[2], fact))
        self.assert_index(InvalidFacts, 3, Times, "abc", FACTS)

    def test_a_thirteenth_one(self):
        self.assertEqual(len(Times("abcd", FACTS * 3)), 12)
        for fact in (FACTS[0], None, Refusing(), Plain()):
            self.assert_index(InvalidFacts, 12, Times, "abcd", (*FACTS * 3, fact))
            self.assert_index(InvalidFacts, 12, Times("abcd", FACTS * 3).more, fact)
        self.assert_index(InvalidFacts, 1, Times, "abcd", (FACTS[0], None, *FACTS * 3))


class TextTest(Case):
    def test_the_text_tells_equal_times(self):
        source = random.Random(101)
        for _ in range(100):
            times = any_times(source)
            after = Times.told(str(times))
            self.assertEqual(after, times)
            self.assertEqual((after.points, after.facts, str(after)), (times.points, times.facts, str(times)))
        self.assertEqual(Times.told(text=TEXT).facts[3][2][1].__class__, int)
        self.assertEqual(Times.told("ab\na b 1 2\na b 1 2\nb a 0 0").facts[:2], (("a", "b", (1, 2)),) * 2)

    def test_what_is_no_text(self):
        wrong = [*odd_values(), TEXT.encode(), [TEXT], TEXT.split("\n"), day(), "a", "ba", "abc\n", "\nabc", "ab\nab 1 2"]
        wrong += ["ab\na a 1 2", "ab\na c 1 2", "ab\na b 2 1", "ab\na b -1001 0", "ab\na b 0 1001", "abcdefg"]
        wrong += ["ab" + "\na b 1 2" * 13, "ab a b 1 2", "ab\na b 1", "ab\na b 1 2 3", "ab\na b 1 2 3 4", "ab\n1 2 a b"]
        wrong += [*with_spaces_changed(TEXT), *with_words_changed(TEXT), *with_numbers_changed(TEXT)]
        for text in wrong:
            self.assert_given(InvalidText, text, Times.told, text)


class OtherFactsTest(Case):
    def test_more(self):
        times, fact = day(), ("d", "a", (-1000, 1000))
        after = times.more(fact)
        self.assertEqual((after.points, after.facts), ("abcd", (*FACTS, fact)))
        self.assertEqual((times, times.more(fact=fact)), (day(), after))
        for wrong in wrong_facts(FACTS[0]):
            self.assert_index(InvalidFacts, 4, times.more, wrong)
        self.assert_index(InvalidFacts, 0, Times("ab", ()).more, None)

    def test_without(self):
        times = day()
        for index in range(4):
            after = times.without(index)
            self.assertEqual((after.points, after.facts), ("abcd", FACTS[:index] + FACTS[index + 1:]))
        self.assertEqual((times, times.without(index=1)), (day(), times.without(1)))
        for index in [*odd_numbers(), 4, -1, 10 ** 60, -10 ** 60]:
            self.assert_given(InvalidNumber, index, times.without, index)
        self.assert_given(InvalidNumber, 0, Times("ab", ()).without, 0)


if __name__ == "__main__":
    unittest.main()
