"""Schedules, rings, leads and chains of times; strikes, idle facts; times as systems."""

import itertools
import random
import unittest

from cornersure.errors import NoTimes, TooFew, TooMany
from cornersure.systems import is_sure_answer, possible_answer, sure_answer
from cornersure.tables import Table
from cornersure.times import (
    Times, as_system, chain, idle_facts, lead, least_strikes, ring, schedule, schedule_with)
from tests.drawn import any_times, small_times
from tests.samples import Case


def numbers_of(times, told):
    return dict(zip(times.points, told))


def is_schedule(times, told):
    """By own sums: for each fact the difference lies in its stretch."""
    if told.__class__ is not tuple or [part.__class__ for part in told] != [int] * len(times.points) or told[0] != 0:
        return False
    numbers = numbers_of(times, told)
    return all(low <= numbers[last] - numbers[first] <= high for first, last, (low, high) in times.facts)


def ends_of_step(times, step):
    """The point where a step begins, that where it ends, and its size."""
    index, way = step
    first, last, (low, high) = times.facts[index]
    return {1: (first, last, high), -1: (last, first, -low)}[way]


def size_of_chain(times, steps, point, later):
    """The size of a chain between these points; fails if it is none."""
    if steps.__class__ is not tuple:
        raise AssertionError(f"no chain: {steps!r}")
    size = 0
    for step in steps:
        begin, point_after, part = ends_of_step(times, step)
        if begin != point:
            raise AssertionError(f"a step of {steps!r} does not begin where the one ahead of it ends")
        point, size = point_after, size + part
    if point != later:
        raise AssertionError(f"{steps!r} does not end at {later}")
    return size


def least_sizes(times, without=()):
    """The least sizes of chains between all points, by points on the way; None if there is a ring."""
    sizes = {(one, other): 0 if one == other else None for one in times.points for other in times.points}

    def take(one, other, size):
        if sizes[one, other] is None or size < sizes[one, other]:
            sizes[one, other] = size

    for index, (first, last, (low, high)) in enumerate(times.facts):
        if index not in without:
            take(first, last, high)
            take(last, first, -low)
    for between, one, other in itertools.product(times.points, repeat=3):
        if sizes[one, between] is not None and sizes[between, other] is not None:
            take(one, other, sizes[one, between] + sizes[between, other])
    return None if any(sizes[point, point] < 0 for point in times.points) else sizes


def drawn_times(seed, many=150):
    """Times of all sizes, with small numbers and with great ones."""
    source = random.Random(seed)
    for _ in range(many):
        yield source, any_times(source)
        yield source, small_times(source, source.randint(2, 6), source.randint(0, 8))
        yield source, small_times(source, source.randint(4, 6), source.randint(2, 5), 30)


def greatest_times():
    points = "abcdef"
    pairs = list(itertools.permutations(points, 2))
    for low, high in ((-1000, 1000), (-1000, -1000), (1000, 1000), (0, 0), (-1000, 0)):
        yield Times(points, tuple((*pair, (low, high)) for pair in pairs[:12]))
        yield Times(points, tuple((first, last, (low, high)) for first, last in zip(points, points[1:])))
        yield Times(points, tuple((*pair, (low, high)) for pair in pairs[::3] + pairs[1::15]))
    yield Times(points, tuple(("a", "b", (at * 90, at * 90)) for at in range(12)))


class SchedulesTest(Case):
    def test_a_schedule_or_a_ring(self):
        seen = []
        for times in [*[times for _, times in drawn_times(121)], *greatest_times()]:
            told, shown = schedule(times), ring(times)
            self.assertEqual(told is None, least_sizes(times) is None)
            if told is None:
                begin, _, _ = ends_of_step(times, shown[0])
                self.assertLess(size_of_chain(times, shown, begin, begin), 0)
            else:
                self.assertIsNone(shown)
                self.assertTrue(is_schedule(times, told))
            seen.append(told is None)
        self.assertGreater(min(seen.count(True), seen.count(False)), 50)

    def test_without_facts(self):
        times = Times("abc", ())
        self.assertTrue(is_schedule(times, schedule(times)))
        self.assertIsNone(ring(times))
        self.assertEqual((lead(times, "a", "c"), chain(times, "c", "a")), ((None, None), None))

    def test_rings_of_one_pair_and_just_none(self):
        late = Times("ab", (("a", "b", (3, 5)), ("b", "a", (-2, 7))))
        begin, _, _ = ends_of_step(late, ring(late)[0])
        self.assertEqual((schedule(late), size_of_chain(late, ring(late), begin, begin)), (None, -1))
        even = Times("ab", (("a", "b", (3, 5)), ("b", "a", (-3, 7))))
        self.assertEqual((schedule(even), ring(even)), ((0, 3), None))


class LeadsTest(Case):
    def test_beside_all_schedules_of_small_times(self):
        # A bound is at most 9 here, by three steps of at most 3, so that greater numbers show that there is none.
        source = random.Random(122)
        seen = set()
        for _ in range(25):
            times = small_times(source, source.randint(2, 3), source.randint(0, 4), 1)
            told = [(0, *rest) for rest in itertools.product(range(-12, 13), repeat=len(times.points) - 1)]
            told = [numbers_of(times, part) for part in told if is_schedule(times, part)]
            if not told:
                self.assertIsNone(schedule(times))
                continue
            for point, later in itertools.product(times.points, repeat=2):
                numbers = [part[later] - part[point] for part in told]
                own = (None if min(numbers) < -9 else min(numbers), None if max(numbers) > 9 else max(numbers))
                self.assertEqual(lead(times, point, later), own)
                seen.add((own[0] is None, own[1] is None))
        self.assertEqual(seen, {(False, False), (True, True)})

    def test_least_chains_and_schedules_that_reach_the_ends(self):
        seen = {True: 0, False: 0}
        for times in [*[times for _, times in drawn_times(123)], *greatest_times()]:
            sizes = least_sizes(times)
            for point, later in itertools.product(times.points, repeat=2):
                if sizes is None:
                    for action in (lead, chain):
                        self.assertEqual(vars(self.error_of(NoTimes, action, times, point, later)), {})
                    continue
                least, greatest = lead(times, point, later)
                self.assertEqual((least and -least, greatest), (sizes[later, point], sizes[point, later]))
                steps = chain(times, point, later)
                self.assertEqual(steps is None, greatest is None)
                if steps is not None:
                    self.assertEqual(size_of_chain(times, steps, point, later), greatest)
                self.assertTrue(point != later or steps == () and (least, greatest) == (0, 0))
                seen[greatest is None] += 1
        self.assertGreater(min(seen.values()), 50)

    def error_of(self, kind, action, *args):
        with self.assertRaises(kind) as caught:
            action(*args)
        self.assertIs(caught.exception.__class__, kind)
        return caught.exception

    def assert_with(self, times, point, later, number, there):
        told = schedule_with(times, point, later, number)
        self.assertEqual(told is not None, there)
        if there:
            numbers = numbers_of(times, told)
            self.assertTrue(is_schedule(times, told))
            self.assertEqual(numbers[later] - numbers[point], number)

    def test_schedules_with_each_number(self):
        source = random.Random(124)
        for _ in range(60):
            times = small_times(source, source.randint(2, 5), source.randint(0, 6))
            for point, later in itertools.product(times.points, repeat=2):
                if schedule(times) is None:
                    self.assert_with(times, point, later, 0, False)
                    self.assert_with(times, point, later, 3, False)
                    continue
                least, greatest = lead(times, point, later)
                for number in range(-12 if least is None else least, 1 + (12 if greatest is None else greatest)):
                    self.assert_with(times, point, later, number, True)
                for end, step in ((least, -1), (greatest, 1)):
                    if end is None:
                        self.assert_with(times, point, later, 100000 * step, True)
                    else:
                        self.assert_with(times, point, later, end + step, False)
                        self.assert_with(times, point, later, end + 1000 * step, False)

    def test_schedules_with_numbers_at_the_bounds(self):
        times = Times("abc", (("a", "b", (1, 2)),))
        for number in (100000, -100000):
            self.assert_with(times, "a", "c", number, True)
            self.assert_with(times, "c", "b", number, True)
            self.assert_with(times, "a", "b", number, False)
            self.assert_with(times, "c", "c", number, False)
        self.assert_with(times, "c", "c", 0, True)


class StrikesTest(Case):
    def test_beside_all_lots(self):
        source = random.Random(125)
        seen = set()
        for _ in range(60):
            times = small_times(source, source.randint(2, 5), source.randint(0, 8), source.choice((2, 9)))
            every = [lot for many in range(len(times) + 1) for lot in itertools.combinations(range(len(times)), many)]
            free = [lot for lot in every if least_sizes(times, lot) is not None]
            own = tuple(lot for lot in free if not any(set(part) < set(lot) for part in free))
            self.assertEqual(least_strikes(times), own)
            seen.add(len(own[0]))
        self.assertTrue({0, 1, 2} <= seen)

    def test_one_of_two_can_stay(self):
        times = Times("ab", (("a", "b", (1, 1)), ("a", "b", (1, 2)), ("b", "a", (5, 5)), ("a", "b", (2, 2))))
        self.assertEqual(least_strikes(times), ((0, 2), (2, 3), (0, 1, 3)))
        self.assertEqual(least_strikes(Times("ab", ())), ((),))


class IdleTest(Case):
    def test_without_each_fact(self):
        seen = set()
        for _, times in drawn_times(126, 80):
            sizes = least_sizes(times)
            if sizes is None:
                with self.assertRaises(NoTimes):
                    idle_facts(times)
            else:
                own = tuple(index for index in range(len(times)) if least_sizes(times, (index,)) == sizes)
                self.assertEqual(idle_facts(times), own)
                seen.add(min(2, len(own)))
        self.assertEqual(seen, {0, 1, 2})

    def test_two_of_a_kind_are_idle_each(self):
        times = Times("abc", (("a", "b", (1, 2)), ("b", "a", (-2, -1)), ("a", "c", (0, 1)), ("a", "b", (0, 2))))
        self.assertEqual(idle_facts(times), (0, 1, 3))
        self.assertEqual(idle_facts(times.without(0)), (2,))


class AsSystemTest(Case):
    def test_answers_are_schedules(self):
        source = random.Random(127)
        seen = set()
        for _ in range(80):
            times = small_times(source, source.randint(2, 4), source.randint(1, 4), source.choice((2, 900)))
            table, bounds = as_system(times)
            told = schedule(times)
            sure, possible = sure_answer(table, bounds), possible_answer(table, bounds)
            self.assertEqual([sure is None, possible is None], [told is None] * 2)
            if told is not None:
                self.assertIs(is_sure_answer(table, bounds, tuple((number, 1) for number in told)), True)
            seen.add(told is None)
        self.assertEqual(seen, {True, False})

    def test_rows_and_bounds(self):
        times = Times("abcd", (("b", "a", (2, 4)), ("a", "c", (-1, 3)), ("d", "b", (-9, -6)), ("c", "d", (0, 1000))))
        table, bounds = as_system(times)
        self.assertEqual(table.columns, ("a", "b", "c", "d"))
        rows = {"ua": (1, -1, 0, 0), "da": (-1, 1, 0, 0), "ub": (-1, 0, 1, 0), "db": (1, 0, -1, 0),
                "uc": (0, 1, 0, -1), "dc": (0, -1, 0, 1), "ud": (0, 0, -1, 1), "dd": (0, 0, 1, -1)}
        self.assertEqual(table, Table(table.columns, tuple((name, tuple((part, part) for part in row))
                                                           for name, row in rows.items())))
        self.assertEqual(bounds, ((4, 4), (-2, -2), (3, 3), (1, 1), (-6, -6), (9, 9), (1000, 1000), (0, 0)))

    def test_errors_in_their_order(self):
        fact = ("a", "b", (1, 2))
        self.assert_given_equal(TooMany, 5, as_system, Times("abcde", (fact,) * 6))
        self.assert_given_equal(TooMany, 6, as_system, Times("abcdef", ()))
        self.assert_given_equal(TooMany, 5, as_system, Times("abcd", (fact,) * 5))
        self.assert_given_equal(TooMany, 12, as_system, Times("abcd", (fact,) * 12))
        self.assert_given_equal(TooFew, 0, as_system, Times("abcd", ()))
        self.assertEqual(len(as_system(Times("abcd", (fact,) * 4))[0]), 8)


if __name__ == "__main__":
    unittest.main()
