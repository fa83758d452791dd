"""Seatings that come of counts, beside the members where they come."""

import itertools
import random
import unittest
from fractions import Fraction

from cornersure.errors import InvalidSeating, UnknownName
from cornersure.seats import (
    Counts, barring_names, can_come, price, seatings, span, sure_seats, surely_comes)
from tests.drawn import any_counts, as_number
from tests.samples import Case, odd_numbers, odd_values
from tests.test_counts import poll

WORDS = ("whole", "odd")
# Each divisor written out, the k-th one for the k-th seat.
DIVISORS = {"whole": (1, 2, 3, 4, 5, 6, 7, 8, 9, 10, 11, 12, 13), "odd": (1, 3, 5, 7, 9, 11, 13, 15, 17, 19, 21, 23, 25)}


def that_come_at(numbers, seats, word):
    """The seatings that come of a member: the greatest worths get the seats, any of those that are alike."""
    worths = [[Fraction(number, divisor) for divisor in DIVISORS[word][:seats]] for number in numbers]
    last = sorted([part for parts in worths for part in parts])[-seats]
    ranges = [range(sum(part > last for part in parts), sum(part >= last for part in parts) + 1) for parts in worths]
    return {seating for seating in itertools.product(*ranges) if sum(seating) == seats}


def numbers_that_matter(counts, seats, word):
    """For each name its ends, and the numbers at which it has a worth like that of an end of any name."""
    divisors = DIVISORS[word][:seats + 1]
    worths = {Fraction(end, divisor) for _, stretch in counts.parts for end in stretch for divisor in divisors}
    return [sorted({*stretch, *[worth * divisor for worth in worths for divisor in divisors
                                if stretch[0] <= worth * divisor <= stretch[1]]}) for _, stretch in counts.parts]


def small_counts(seed, many):
    source = random.Random(seed)
    for at in range(many):
        yield any_counts(source, (2, 4, 9, 1000)[at % 4], source.choice((2, 2, 3))), source.randint(1, 3), WORDS[at % 2]


def any_seating(source, names, most=12):
    seats = source.randint(1, most)
    marks = sorted(source.randint(0, seats) for _ in range(names - 1))
    return tuple(after - begun for begun, after in zip([0, *marks], [*marks, seats]))


class SeatingsTest(Case):
    def test_beside_members(self):
        seen = set()
        for counts, seats, word in small_counts(271, 90):
            own, always = set(), None
            every = list(itertools.product(*numbers_that_matter(counts, seats, word)))
            for numbers in every if len(every) < 3000 else random.Random(272).sample(every, 3000):
                here = that_come_at(numbers, seats, word)
                own |= here
            for numbers in itertools.product(*[stretch for _, stretch in counts.parts]):
                here = that_come_at(numbers, seats, word)
                always = here if always is None else always & here
            told = seatings(counts, seats, word)
            self.assertLessEqual(own, set(told))
            if len(every) < 3000:
                self.assertEqual(told, tuple(sorted(own)))
            for seating in itertools.product(range(seats + 1), repeat=len(counts)):
                if sum(seating) == seats:
                    self.assertIs(can_come(counts, word, seating), seating in told)
                    self.assertIs(surely_comes(counts, word, seating), seating in always)
            seen.add((len(told) > 1, len(always) > 0, len(always) > 1))
        self.assertEqual(len(seen), 4)

    def test_beside_members_of_greater_counts(self):
        source = random.Random(273)
        for at in range(60):
            counts, word = any_counts(source), WORDS[at % 2]
            seats = source.randint(1, 12)
            told = set(seatings(counts, seats, word))
            for _ in range(20):
                numbers = [Fraction(source.randint(2 * low, 2 * high), 2) for _, (low, high) in counts.parts]
                self.assertLessEqual(that_come_at(numbers, seats, word), told)

    def test_ascending_and_of_the_right_kind(self):
        source = random.Random(274)
        for at in range(40):
            counts, seats = any_counts(source), source.randint(1, 12)
            told = seatings(counts, seats, WORDS[at % 2])
            self.assertEqual((told.__class__, list(told), len(set(told))), (tuple, sorted(told), len(told)))
            self.assertEqual({(part.__class__, len(part), sum(part)) for part in told}, {(tuple, len(counts), seats)})
            self.assertEqual({number.__class__ for part in told for number in part}, {int})

    def test_exact_counts_without_ties(self):
        counts = Counts((("a", (53, 53)), ("b", (24, 24)), ("c", (23, 23))))
        self.assertEqual(seatings(counts, 7, "whole"), ((4, 2, 1),))
        self.assertEqual(seatings(counts, 7, "odd"), ((3, 2, 2),))
        self.assertEqual((surely_comes(counts, "whole", (4, 2, 1)), surely_comes(counts, "odd", (4, 2, 1))), (True, False))

    def test_counts_of_nothing(self):
        none = Counts((("a", (0, 0)), ("b", (0, 0))))
        self.assertEqual(seatings(none, 2, "odd"), ((0, 2), (1, 1), (2, 0)))
        self.assertEqual((surely_comes(none, "odd", (0, 2)), price(none, "odd", (2, 0)), span(none, 12, "whole", "a")),
                         (True, (0, 1), (0, 12)))
        one = Counts((("a", (0, 0)), ("b", (1, 1))))
        self.assertEqual((seatings(one, 12, "whole"), barring_names(one, "whole", (1, 11))), (((0, 12),), ("a", "b")))
        self.assertEqual((seatings(Counts((("a", (0, 1)), ("b", (0, 0)))), 1, "odd")), ((0, 1), (1, 0)))

    def test_ties_of_worths(self):
        counts = Counts((("a", (2, 2)), ("b", (1, 1))))
        self.assertEqual(seatings(counts, 2, "whole"), ((1, 1), (2, 0)))
        self.assertEqual([surely_comes(counts, "whole", seating) for seating in ((1, 1), (2, 0), (0, 2))], [True, True, False])
        self.assertEqual(seatings(Counts((("a", (3, 3)), ("b", (1, 1)))), 2, "odd"), ((1, 1), (2, 0)))
        self.assertEqual(seatings(Counts((("a", (1, 1)), ("b", (1, 1)))), 1, "whole"), ((0, 1), (1, 0)))


class PapersTest(Case):
    def test_prices_and_names_by_own_fractions(self):
        source, seen = random.Random(275), set()
        for at in range(900):
            counts, word = any_counts(source, (2, 9, 1000)[at % 3]), WORDS[at % 2]
            seating = any_seating(source, len(counts), source.choice((2, 12)))
            told, names = price(counts, word, seating), barring_names(counts, word, seating)
            self.assertEqual((told is None, names is not None), (names is not None, not can_come(counts, word, seating)))
            self.assertEqual(told is not None, seating in seatings(counts, sum(seating), word))
            if told is not None:
                self.assert_price(counts, word, seating, as_number(told))
            else:
                self.assert_names(counts, word, seating, names)
            seen.add((told is None, word))
        self.assertEqual(len(seen), 4)

    def assert_price(self, counts, word, seating, number):
        self.assertGreaterEqual(number, 0)
        for (_, (low, high)), many in zip(counts.parts, seating):
            self.assertLessEqual(low, number * DIVISORS[word][many])
            self.assertTrue(many == 0 or high >= number * DIVISORS[word][many - 1])

    def assert_names(self, counts, word, seating, names):
        self.assertEqual((names.__class__, len(names)), (tuple, 2))
        at, other = [counts.names.index(name) for name in names]
        self.assertGreater(seating[at], 0)
        last = Fraction(counts.parts[at][1][1], DIVISORS[word][seating[at] - 1])
        self.assertLess(last, Fraction(counts.parts[other][1][0], DIVISORS[word][seating[other]]))


class SpanTest(Case):
    def test_beside_all_seatings(self):
        source = random.Random(276)
        for at in range(60):
            counts, seats, word = any_counts(source, (3, 9, 1000)[at % 3]), source.choice((1, 12, 5)), WORDS[at % 2]
            every, sure = seatings(counts, seats, word), 0
            for index, name in enumerate(counts.names):
                numbers = {seating[index] for seating in every}
                self.assertEqual(span(counts, seats, word, name), (min(numbers), max(numbers)))
                self.assertEqual(numbers, set(range(min(numbers), max(numbers) + 1)))
                sure += min(numbers)
            self.assertEqual(sure_seats(counts, seats, word), sure)

    def test_ends_are_at_corners(self):
        source = random.Random(277)
        for at in range(40):
            counts, seats, word = any_counts(source, (3, 9, 1000)[at % 3]), source.randint(1, 12), WORDS[at % 2]
            for index, name in enumerate(counts.names):
                worst = [stretch[other != index] for other, (_, stretch) in enumerate(counts.parts)]
                best = [stretch[other == index] for other, (_, stretch) in enumerate(counts.parts)]
                own = (min(seating[index] for seating in that_come_at(worst, seats, word)),
                       max(seating[index] for seating in that_come_at(best, seats, word)))
                self.assertEqual(span(counts, seats, word, name), own)

    def test_one_seat_and_twelve(self):
        self.assertEqual([span(poll(), 1, "odd", name) for name in "pqr"], [(1, 1), (0, 0), (0, 0)])
        self.assertEqual((sure_seats(poll(), 1, "odd"), sure_seats(poll(), 12, "whole")), (1, 10))
        self.assertEqual([span(poll(), 12, "whole", name) for name in "pqr"], [(6, 8), (3, 5), (1, 2)])


class WrongTest(Case):
    def test_seatings_of_other_kinds(self):
        wrong = [*odd_values(), [2, 1, 1], (2, 2), (1, 1, 1, 1), (0, 0, 0), (13, 0, 0), (5, 5, 3), (-1, 2, 1), (12, 1, -1),
                 {0: 1, 1: 1, 2: 1}, ((1, 1, 1),), "111", (10 ** 60, 1, 1), (-10 ** 60, 10 ** 60, 1)]
        wrong += [(value, 1, 1) for value in odd_numbers()] + [(1, 1, value) for value in odd_numbers()]
        for value in wrong:
            for action in (can_come, surely_comes, price, barring_names):
                self.assert_given(InvalidSeating, value, action, poll(), "odd", value)
        for seating in ((12, 0, 0), (0, 0, 1), (0, 12, 0), (4, 4, 4)):
            self.assertIs(can_come(poll(), "odd", seating).__class__, bool)

    def test_unknown_names_come_last(self):
        for name in [*odd_values(), "a", "pq", "P", ("p",), ["p"], b"p", "p ", "p 50 60"]:
            self.assert_given(UnknownName, name, span, poll(), 3, "odd", name)


if __name__ == "__main__":
    unittest.main()
