"""Systems: sums of rows, answers, and what shows that there are none."""

import itertools
import random
import unittest

from cornersure.systems import (
    barring_member, barring_weights, is_possible_answer, is_sure_answer, possible_answer, row_ends, sure_answer)
from cornersure.tables import Table, is_member
from tests.drawn import (
    any_fraction, any_table, as_numbers, as_pair, corners_of, ends_by_signs, greatest_tables, signs_of, small_stretches,
    small_table)
from tests.oracles import can_be_kept, dot
from tests.samples import Case

SIZES = ((1, 1), (1, 4), (2, 1), (2, 2), (2, 3), (2, 4), (3, 3))


def sure_walls(table, bounds):
    """Rows and limits that just the sure answers keep: those of all corners."""
    return [(list(row), low) for (_, stretches), (low, _) in zip(table.rows, bounds)
            for row in itertools.product(*[sorted(set(stretch)) for stretch in stretches])]


def possible_walls(table, bounds, signs):
    """Rows and limits that just the possible answers keep that have these signs, or 0."""
    rows = ends_by_signs(table, [-sign for sign in signs])
    walls = [(row, high) for row, (_, high) in zip(rows, bounds)]
    many = len(signs)
    return walls + [([-sign * (at == other) for other in range(many)], 0) for at, sign in enumerate(signs)]


def drawn_systems(seed, many, most=4):
    source = random.Random(seed)
    for columns, rows in SIZES:
        for _ in range(many):
            yield source, small_table(source, columns, rows, most), small_stretches(source, rows, most)


def all_systems(source):
    """Systems of all sizes, those of the greatest numbers among them."""
    systems = []
    for _ in range(60):
        table = any_table(source)
        if source.randint(0, 1):
            table = small_table(source, source.randint(1, 4), source.randint(1, 8))
        systems.append((table, small_stretches(source, len(table), source.choice((1, 9000)))))
    for table in greatest_tables(source):
        systems += [(table, (pair,) * 8) for pair in ((0, 0), (-10000, 10000), (-10000, -10000), (10000, 10000))]
    return systems


def any_answer(source, many):
    return tuple(any_fraction(source, (-3, 3)) for _ in range(many))


class RowEndsTest(Case):
    def test_beside_all_corners(self):
        for source, table, bounds in drawn_systems(71, 12):
            answer = any_answer(source, len(table.columns))
            numbers = as_numbers(answer)
            own = []
            for _, stretches in table.rows:
                sums = [dot(row, numbers) for row in itertools.product(*stretches)]
                own.append((as_pair(min(sums)), as_pair(max(sums))))
            self.assertEqual(row_ends(table, answer), tuple(own))
            sure = all(most <= low for (_, most), (low, _) in zip(map(as_numbers, own), bounds))
            possible = all(least <= high for (least, _), (_, high) in zip(map(as_numbers, own), bounds))
            self.assertIs(is_sure_answer(table, bounds, answer), sure)
            self.assertIs(is_possible_answer(table, bounds, answer), possible)

    def test_sums_at_the_bounds_and_just_beyond(self):
        table = Table(("x", "y"), (("r", ((1, 2), (-1, 0))),))
        answer = ((3, 2), (-1, 2))
        self.assertEqual(row_ends(table, answer), (((3, 2), (7, 2)),))
        for bounds, sure, possible in (((4, 5), True, True), ((3, 3), False, True), ((1, 2), False, True),
                                       ((1, 1), False, False)):
            self.assertIs(is_sure_answer(table, (bounds,), answer), sure)
            self.assertIs(is_possible_answer(table, (bounds,), answer), possible)
        whole = ((2, 1), (0, 1))
        for bounds, sure, possible in (((4, 4), True, True), ((3, 4), False, True), ((2, 2), False, True),
                                       ((1, 1), False, False)):
            self.assertIs(is_sure_answer(table, (bounds,), whole), sure)
            self.assertIs(is_possible_answer(table, (bounds,), whole), possible)

    def test_fractions_of_many_digits(self):
        table = Table(("x",), (("r", ((-10000, 10000),)),))
        great, small = 10 ** 90, (1, 10 ** 90)
        self.assertEqual(row_ends(table, ((great, 1),)), (((-great * 10000, 1), (great * 10000, 1)),))
        self.assertIs(is_sure_answer(table, ((0, 0),), (small,)), False)
        self.assertIs(is_sure_answer(table, ((1, 1),), (small,)), True)
        self.assertIs(is_possible_answer(table, ((-1, -1),), (small,)), False)


class SystemCase(Case):
    def assert_no_sure_answer(self, table, bounds):
        """By a member and loads that show it."""
        member, loads = barring_member(table, bounds)
        self.assertTrue(is_member(table, member))
        numbers = as_numbers(loads)
        self.assertEqual((len(numbers), min(numbers) >= 0), (len(table), True))
        for column in zip(*[as_numbers(row) for row in member]):
            self.assertEqual(dot(column, numbers), 0)
        self.assertLess(dot([low for low, _ in bounds], numbers), 0)

    def assert_no_possible_answer(self, table, bounds):
        """By loads for all signs that show it."""
        told = barring_weights(table, bounds)
        self.assertEqual((told.__class__, len(told)), (tuple, 2 ** len(table.columns)))
        for signs, loads in zip(signs_of(table), told):
            numbers = as_numbers(loads)
            self.assertEqual((len(numbers), min(numbers) >= 0), (len(table), True))
            rows = ends_by_signs(table, [-sign for sign in signs])
            for sign, column in zip(signs, zip(*rows)):
                self.assertGreaterEqual(sign * dot(column, numbers), 0)
            self.assertLess(dot([high for _, high in bounds], numbers), 0)

    def assert_answers(self, table, bounds):
        """Answers are answers; without one it is shown. What is returned: whether there are both kinds."""
        sure, possible = sure_answer(table, bounds), possible_answer(table, bounds)
        for answer in (sure, possible):
            self.assertTrue(answer is None or len(as_numbers(answer)) == len(table.columns))
        if sure is None:
            self.assert_no_sure_answer(table, bounds)
        else:
            self.assertIs(is_sure_answer(table, bounds, sure), True)
            self.assertIsNone(barring_member(table, bounds))
            self.assertIsNotNone(possible)
        if possible is None:
            self.assert_no_possible_answer(table, bounds)
        else:
            self.assertIs(is_possible_answer(table, bounds, possible), True)
            self.assertIsNone(barring_weights(table, bounds))
        return sure is not None, possible is not None


class AnswersTest(SystemCase):
    def test_an_answer_exactly_if_there_is_one(self):
        seen = []
        for _, table, bounds in drawn_systems(72, 30):
            many = len(table.columns)
            found = self.assert_answers(table, bounds)
            some = any(can_be_kept(possible_walls(table, bounds, signs), many) for signs in signs_of(table))
            self.assertEqual(found, (can_be_kept(sure_walls(table, bounds), many), some))
            seen.append(found)
        for kind in ((True, True), (False, True), (False, False)):
            self.assertGreater(seen.count(kind), 5)

    def test_a_sure_answer_exactly_if_each_corner_has_one(self):
        source = random.Random(73)
        for columns, rows in ((1, 2), (2, 2), (2, 3), (1, 4)):
            for _ in range(10):
                table, bounds = small_table(source, columns, rows, 2), small_stretches(source, rows, 2)
                lows = [low for low, _ in bounds]
                if sure_answer(table, bounds) is not None:
                    self.assertTrue(all(can_be_kept(list(zip(corner, lows)), columns) for corner in corners_of(table)))

    def test_systems_of_all_sizes(self):
        source = random.Random(74)
        seen = {self.assert_answers(table, bounds) for table, bounds in all_systems(source)}
        self.assertEqual(seen, {(True, True), (False, True), (False, False)})

    def test_rows_of_noughts(self):
        table = Table(("x", "y"), (("r", ((0, 0), (0, 0))),))
        self.assertEqual(self.assert_answers(table, ((0, 0),)), (True, True))
        self.assertEqual(self.assert_answers(table, ((-1, 0),)), (False, True))
        self.assertEqual(self.assert_answers(table, ((-1, -1),)), (False, False))

    def test_a_row_that_may_be_nothing(self):
        table = Table(("x",), (("r", ((0, 1),)),))
        self.assertEqual(self.assert_answers(table, ((-1, -1),)), (False, True))
        self.assertEqual(self.assert_answers(table, ((0, 0),)), (True, True))
        wide = Table(("x",), (("r", ((-1, 1),)), ("s", ((1, 1),)), ("t", ((-1, -1),))))
        self.assertEqual(self.assert_answers(wide, ((-1, -1), (2, 2), (-2, -2))), (False, True))
        self.assertEqual(self.assert_answers(wide, ((-3, -3), (2, 2), (-2, -2))), (False, False))


if __name__ == "__main__":
    unittest.main()
