"""Mixes that hit targets: sure, possible and corner ones, and loads that bar."""

import random
import unittest
from fractions import Fraction

from cornersure.mixes import (
    barring, corner_mix, is_possible_mix, is_served, is_sure_mix, mix_ends, possible_mix, price_of, sure_mix)
from cornersure.tables import Table
from tests.drawn import (
    any_mix, any_table, as_number, as_numbers, as_pair, corners_of, ends_by_signs, greatest_tables, signs_of,
    small_stretches, small_table)
from tests.oracles import corners_of_shares, dot
from tests.samples import Case, bar

SIZES = ((1, 1), (1, 3), (2, 1), (2, 2), (2, 3), (2, 4), (3, 3))


def walls_for(rows, target):
    """Rows and limits that a mix keeps exactly if it hits the target with these payoffs."""
    columns = list(zip(*rows))
    above = [(list(column), high) for column, (_, high) in zip(columns, target)]
    below = [([-number for number in column], -low) for column, (low, _) in zip(columns, target)]
    return above + below


def sure_walls(table, target):
    many = len(table.columns)
    highs, lows = ends_by_signs(table, (1,) * many), ends_by_signs(table, (-1,) * many)
    return walls_for(highs, target)[:many] + walls_for(lows, target)[many:]


def possible_walls(table, target):
    many = len(table.columns)
    highs, lows = ends_by_signs(table, (1,) * many), ends_by_signs(table, (-1,) * many)
    return walls_for(lows, target)[:many] + walls_for(highs, target)[many:]


def corner_walls(table, target, signs):
    walls = walls_for(ends_by_signs(table, signs), target)
    return [walls[at if sign == 1 else at + len(signs)] for at, sign in enumerate(signs)]


def corners_by(walls, many):
    return corners_of_shares([row for row, _ in walls], [limit for _, limit in walls], many)


def keeps(walls, mix):
    return all(dot(row, mix) <= limit for row, limit in walls)


def drawn_games(seed, many):
    source = random.Random(seed)
    for columns, rows in SIZES:
        for _ in range(many):
            yield source, small_table(source, columns, rows), small_stretches(source, columns)


def far_table(source):
    """A table of any size with a target that some of its mixes hit."""
    table = any_table(source)
    target = []
    for column in table.columns:
        low = min(table.stretch(name, column)[0] for name in table.names)
        high = max(table.stretch(name, column)[1] for name in table.names)
        first = source.randint(low, high)
        target.append((first, source.randint(first, high)))
    return table, tuple(target)


class MixEndsTest(Case):
    def test_by_own_sums(self):
        source = random.Random(51)
        for _ in range(80):
            table = any_table(source)
            mix, many = any_mix(source, len(table)), len(table.columns)
            lows, highs = ends_by_signs(table, (-1,) * many), ends_by_signs(table, (1,) * many)
            own = [(as_pair(dot(low, as_numbers(mix))), as_pair(dot(high, as_numbers(mix))))
                   for low, high in zip(zip(*lows), zip(*highs))]
            self.assertEqual(mix_ends(table, mix), tuple(own))

    def test_price_by_own_sums(self):
        source = random.Random(52)
        for _ in range(80):
            table = any_table(source)
            mix = any_mix(source, len(table))
            prices = tuple(source.choice((0, 1000, source.randint(0, 1000))) for _ in table.names)
            self.assertEqual(as_number(price_of(table, prices, mix)), dot(prices, as_numbers(mix)))


class HitsTest(Case):
    def test_beside_all_corners(self):
        source = random.Random(53)
        seen = set()
        for columns, rows in ((1, 1), (1, 3), (2, 1), (2, 2), (2, 3)):
            for _ in range(60):
                table, target = small_table(source, columns, rows), small_stretches(source, columns)
                mix = any_mix(source, rows)
                hits = [keeps(walls_for(corner, target), as_numbers(mix)) for corner in corners_of(table)]
                self.assertIs(is_sure_mix(table, target, mix), all(hits))
                # A stretch that lies around the target hits it in a member that is no corner.
                own = keeps(possible_walls(table, target), as_numbers(mix))
                self.assertIs(is_possible_mix(table, target, mix), own)
                self.assertTrue(own or not any(hits))
                seen.add((all(hits), own))
        self.assertEqual(seen, {(True, True), (False, True), (False, False)})

    def test_a_sum_at_an_end_hits(self):
        table = Table(("x",), (("r", ((2, 4),)), ("s", ((3, 5),))))
        half = ((1, 2), (1, 2))
        self.assertEqual(mix_ends(table, half), (((5, 2), (9, 2)),))
        for target, sure, possible in (((2, 5), True, True), ((3, 5), False, True), ((2, 4), False, True),
                                       ((5, 9), False, False), ((-9, 2), False, False), ((4, 4), False, True)):
            self.assertIs(is_sure_mix(table, (target,), half), sure)
            self.assertIs(is_possible_mix(table, (target,), half), possible)
        first = ((1, 1), (0, 1))
        for target, sure, possible in (((2, 4), True, True), ((4, 9), False, True), ((0, 2), False, True),
                                       ((5, 9), False, False), ((0, 1), False, False)):
            self.assertIs(is_sure_mix(table, (target,), first), sure)
            self.assertIs(is_possible_mix(table, (target,), first), possible)


class AnyMixTest(Case):
    def assert_mix_by(self, mix, walls, many):
        """The mix keeps the walls; or it is None, and there is none by all corners of the shares."""
        self.assertEqual(mix is not None, bool(corners_by(walls, many)))
        if mix is not None:
            shares = as_numbers(mix)
            self.assertEqual((len(shares), sum(shares), min(shares) >= 0), (many, 1, True))
            self.assertTrue(keeps(walls, shares))
        return mix is not None

    def test_a_mix_exactly_if_there_is_one(self):
        seen = set()
        for source, table, target in drawn_games(54, 25):
            many = len(table)
            sure, possible = sure_mix(table, target), possible_mix(table, target)
            found = (self.assert_mix_by(sure, sure_walls(table, target), many),
                     self.assert_mix_by(possible, possible_walls(table, target), many))
            self.assertTrue(sure is None or is_sure_mix(table, target, sure))
            self.assertTrue(possible is None or is_possible_mix(table, target, possible))
            signs = source.choice(signs_of(table))
            walls = corner_walls(table, target, signs)
            found += (self.assert_mix_by(corner_mix(table, target, signs), walls, many),)
            seen.add(found)
        self.assertTrue({(False, False, False), (True, True, True), (False, True, True), (False, True, False)} <= seen)

    def test_tables_of_all_sizes(self):
        source = random.Random(55)
        tables = [far_table(source) for _ in range(80)]
        tables += [(table, ((-10000, 10000),) * 4) for table in greatest_tables(source)]
        tables += [(table, ((0, 0),) * 4) for table in greatest_tables(source)]
        for table, target in tables:
            sure, possible = sure_mix(table, target), possible_mix(table, target)
            self.assertTrue(sure is None or is_sure_mix(table, target, sure))
            self.assertTrue(possible is None or is_possible_mix(table, target, possible))
            self.assertTrue(sure is None or is_served(table, target))
            self.assertTrue(possible is not None or not is_served(table, target))
            for signs in signs_of(table):
                mix = corner_mix(table, target, signs)
                self.assertTrue(mix is None or keeps(corner_walls(table, target, signs), as_numbers(mix)))
                self.assertTrue(mix is not None or not is_served(table, target))

    def test_all_targets_at_the_bounds_are_hit(self):
        for table in greatest_tables(random.Random(56)):
            mix = sure_mix(table, ((-10000, 10000),) * 4)
            self.assertIs(is_sure_mix(table, ((-10000, 10000),) * 4, mix), True)


class ServedTest(Case):
    def assert_bars(self, table, target, found):
        signs, loads = found
        numbers = as_numbers(loads)
        self.assertEqual(len(numbers), len(signs))
        self.assertIn(signs, signs_of(table))
        self.assertGreaterEqual(min(numbers), 0)
        aims = [stretch[(sign + 1) // 2] for stretch, sign in zip(target, signs)]
        for row in ends_by_signs(table, signs):
            signed = [sign * (end - aim) for end, aim, sign in zip(row, aims, signs)]
            self.assertGreater(dot(signed, numbers), 0)
        return signs

    def test_loads_bar_exactly_if_a_corner_mix_is_not_there(self):
        seen = set()
        for _, table, target in drawn_games(57, 25):
            free = all(corners_by(corner_walls(table, target, signs), len(table)) for signs in signs_of(table))
            self.assertIs(is_served(table, target), free)
            self.assertEqual(free, all(corner_mix(table, target, signs) for signs in signs_of(table)))
            found = barring(table, target)
            self.assertEqual(found is None, free)
            if found:
                signs = self.assert_bars(table, target, found)
                self.assertIsNone(corner_mix(table, target, signs))
            seen.add(free)
        self.assertEqual(seen, {True, False})

    def test_beside_all_corners(self):
        source = random.Random(58)
        seen = []
        for columns, rows in ((1, 2), (2, 2), (2, 3), (3, 2)):
            for _ in range(12):
                table, target = small_table(source, columns, rows, 2), small_stretches(source, columns, 2)
                free = is_served(table, target)
                if free:
                    self.assertTrue(all(corners_by(walls_for(corner, target), rows) for corner in corners_of(table)))
                else:
                    signs, _ = barring(table, target)
                    self.assertFalse(corners_by(walls_for(ends_by_signs(table, signs), target), rows))
                seen.append(free)
        self.assertGreater(min(seen.count(True), seen.count(False)), 3)

    def test_tables_of_all_sizes(self):
        source = random.Random(59)
        tables = [far_table(source) for _ in range(80)]
        for table in greatest_tables(source):
            tables += [(table, ((low, high),) * 4) for low, high in ((0, 0), (10000, 10000), (-10000, -9999))]
        served = 0
        for table, target in tables:
            found = barring(table, target)
            served += found is None
            if found:
                self.assert_bars(table, target, found)
        self.assertTrue(0 < served < len(tables))

    def test_served_without_a_sure_mix(self):
        aim = ((5, 5), (5, 5))
        self.assertEqual((is_served(bar(), aim), sure_mix(bar(), aim), barring(bar(), aim)), (True, None, None))
        for signs in signs_of(bar()):
            self.assertTrue(keeps(corner_walls(bar(), aim, signs), as_numbers(corner_mix(bar(), aim, signs))))
        self.assertEqual(sum(as_numbers(corner_mix(bar(), aim, (1, -1)))), Fraction(1))


if __name__ == "__main__":
    unittest.main()
