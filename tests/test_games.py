"""Worths of members, the mixes that hold and allow them, saddles."""

import random
import unittest

from cornersure.games import (
    allows, best_mixes, holds, keeping_mix, possible_saddles, safe_mix, sure_saddles, worth, worths)
from cornersure.tables import Table, all_high, all_low, exact, turned
from tests.drawn import (
    any_member, any_mix, any_table, as_number, as_numbers, as_pair, corners_of, ends_by_signs,
    greatest_tables, small_table)
from tests.oracles import dot, worth_by_square_parts
from tests.samples import Case, bar, crop

SIZES = ((1, 1), (1, 5), (4, 1), (2, 2), (2, 3), (3, 2), (3, 3), (4, 3), (2, 8))


def held(payoffs, mix):
    return min(dot(column, mix) for column in zip(*payoffs))


def allowed(payoffs, mix):
    return max(dot(row, mix) for row in payoffs)


class GameCase(Case):
    def assert_mix(self, mix, many):
        shares = as_numbers(mix)
        self.assertEqual((len(shares), sum(shares)), (many, 1))
        self.assertGreaterEqual(min(shares), 0)
        return shares

    def assert_worth(self, table, member):
        payoffs = [as_numbers(row) for row in member]
        number = as_number(worth(table, member))
        rows_mix, columns_mix = best_mixes(table, member)
        self.assertEqual(held(payoffs, self.assert_mix(rows_mix, len(table))), number)
        self.assertEqual(allowed(payoffs, self.assert_mix(columns_mix, len(table.columns))), number)
        return payoffs, number

    def assert_ends(self, table):
        many = len(table.columns)
        lows, highs = ends_by_signs(table, (-1,) * many), ends_by_signs(table, (1,) * many)
        low, high = as_numbers(worths(table))
        self.assertEqual((as_pair(low), as_pair(high)), (worth(table, all_low(table)), worth(table, all_high(table))))
        self.assertEqual(held(lows, self.assert_mix(safe_mix(table), len(table))), low)
        self.assertEqual(allowed(highs, self.assert_mix(keeping_mix(table), many)), high)
        self.assertEqual(holds(table, safe_mix(table)), as_pair(low))
        self.assertEqual(allows(table, keeping_mix(table)), as_pair(high))


class WorthTest(GameCase):
    def test_beside_all_square_parts(self):
        source = random.Random(31)
        for columns, rows in [*SIZES, *SIZES, (3, 8), (4, 4), (4, 8)]:
            table = small_table(source, columns, rows, 9)
            for member in (all_low(table), all_high(table)):
                payoffs, number = self.assert_worth(table, member)
                self.assertEqual(number, worth_by_square_parts(payoffs))

    def test_members_with_fractions(self):
        source = random.Random(32)
        for columns, rows in SIZES:
            table = small_table(source, columns, rows, 9)
            for _ in range(3):
                payoffs, number = self.assert_worth(table, any_member(source, table))
                self.assertEqual(number, worth_by_square_parts(payoffs))

    def test_mixes_show_the_worth_in_tables_of_all_sizes(self):
        source = random.Random(33)
        for _ in range(120):
            table = any_table(source)
            self.assert_ends(table)
            self.assert_worth(table, any_member(source, table))

    def test_numbers_at_the_bounds(self):
        for table in greatest_tables(random.Random(34)):
            self.assert_ends(table)
            self.assert_worth(table, any_member(random.Random(35), table))

    def test_all_numbers_alike(self):
        for number in (-10000, -1, 0, 7, 10000):
            table = Table(tuple("abcd"), tuple((name, ((number, number),) * 4) for name in "rstuvwxy"))
            self.assertEqual(worths(table), ((number, 1), (number, 1)))
            self.assert_ends(table)

    def test_one_row_and_one_column(self):
        row = Table(tuple("abc"), (("r", ((3, 5), (-2, 9), (4, 4))),))
        self.assertEqual(worths(row), ((-2, 1), (4, 1)))
        self.assertEqual(safe_mix(row), ((1, 1),))
        column = Table(("a",), (("r", ((3, 5),)), ("s", ((-2, 9),)), ("t", ((4, 4),))))
        self.assertEqual(worths(column), ((4, 1), (9, 1)))
        self.assertEqual((safe_mix(column), keeping_mix(column)), (((0, 1), (0, 1), (1, 1)), ((1, 1),)))

    def test_fractions_of_many_digits(self):
        table = Table(("x", "y"), (("r", ((0, 1), (0, 1))), ("s", ((0, 1), (0, 1)))))
        small, great = (1, 10 ** 90), (10 ** 90 - 1, 10 ** 90)
        self.assert_worth(table, ((small, great), (great, small)))
        self.assertEqual(worth(table, ((small, great), (great, small))), (1, 2))

    def test_turned_games_are_worth_the_opposite(self):
        source = random.Random(36)
        for columns, rows in ((1, 4), (2, 2), (4, 3), (3, 4)):
            table = small_table(source, columns, rows, 9)
            low, high = as_numbers(worths(table))
            self.assertEqual(as_numbers(worths(turned(table))), [-high, -low])

    def test_all_members_are_worth_a_number_between(self):
        source = random.Random(37)
        for _ in range(60):
            table = small_table(source, source.randint(1, 4), source.randint(1, 8), 9)
            low, high = as_numbers(worths(table))
            number = as_number(worth(table, any_member(source, table)))
            self.assertTrue(low <= number <= high)

    def test_an_exact_table_has_the_worth_of_its_member(self):
        self.assertEqual(worths(exact(crop(), all_high(crop()))), ((17, 5), (17, 5)))


class HoldsTest(GameCase):
    def test_by_own_sums(self):
        source = random.Random(38)
        for _ in range(100):
            table = any_table(source)
            many = len(table.columns)
            mix, columns_mix = any_mix(source, len(table)), any_mix(source, many)
            lows, highs = ends_by_signs(table, (-1,) * many), ends_by_signs(table, (1,) * many)
            self.assertEqual(as_number(holds(table, mix)), held(lows, as_numbers(mix)))
            self.assertEqual(as_number(allows(table, columns_mix)), allowed(highs, as_numbers(columns_mix)))

    def test_no_mix_holds_or_allows_more_than_the_worth(self):
        source = random.Random(39)
        for _ in range(100):
            table = any_table(source)
            low, high = as_numbers(worths(table))
            self.assertLessEqual(as_number(holds(table, any_mix(source, len(table)))), low)
            self.assertGreaterEqual(as_number(allows(table, any_mix(source, len(table.columns)))), high)

    def test_single_rows_and_columns(self):
        self.assertEqual(holds(bar(), ((0, 1), (0, 1), (0, 1), (1, 1))), (7, 1))
        self.assertEqual(allows(bar(), ((0, 1), (1, 1))), (9, 1))
        self.assertEqual(holds(crop(), ((1, 3), (1, 3), (1, 3))), (1, 1))


class SaddlesTest(Case):
    def test_possible_ones_are_saddles_of_a_member(self):
        # A member in which a place is a saddle: the others of its column as low, of its row as high as they can be.
        source = random.Random(40)
        for _ in range(150):
            table = small_table(source, source.randint(1, 4), source.randint(1, 5))
            own = []
            for row, name in enumerate(table.names):
                for at, column in enumerate(table.columns):
                    corner = [[table.stretch(other, place)[place != column] for place in table.columns]
                              for other in table.names]
                    low, high = table.stretch(name, column)
                    for number in range(low, high + 1):
                        corner[row][at] = number
                        if is_saddle(corner, row, at):
                            own.append((name, column))
                            break
            self.assertEqual(possible_saddles(table), tuple(own))

    def test_beside_all_members_in_integers(self):
        source = random.Random(41)
        for columns, rows in ((1, 1), (1, 2), (2, 1), (2, 2), (2, 2), (3, 1), (1, 4), (2, 3)):
            for _ in range(6):
                table = small_table(source, columns, rows, 1)
                some, each = saddles_of_all(table)
                self.assertEqual((possible_saddles(table), sure_saddles(table)), (some, each))

    def test_a_saddle_is_worth_its_number(self):
        source = random.Random(42)
        for _ in range(150):
            table = small_table(source, source.randint(1, 3), source.randint(1, 3))
            for name, column in sure_saddles(table):
                low, high = table.stretch(name, column)
                self.assertEqual(worths(table), ((low, 1), (high, 1)))
                self.assertIn((name, column), possible_saddles(table))

    def test_order_row_by_row(self):
        alike = Table(("b", "a"), (("s", ((1, 1), (1, 1))), ("r", ((1, 1), (1, 1)))))
        every = (("s", "b"), ("s", "a"), ("r", "b"), ("r", "a"))
        self.assertEqual((possible_saddles(alike), sure_saddles(alike)), (every, every))

    def test_no_saddle_at_all(self):
        table = Table(("x", "y"), (("r", ((1, 1), (0, 0))), ("s", ((0, 0), (1, 1)))))
        self.assertEqual((possible_saddles(table), sure_saddles(table)), ((), ()))


def is_saddle(payoffs, row, at):
    return payoffs[row][at] == max(line[at] for line in payoffs) == min(payoffs[row])


def saddles_of_all(table):
    whole = Table(table.columns, table.rows)
    # All integers of a stretch, and not its ends alone: a saddle may need one between.
    places = [(name, column) for name in table.names for column in table.columns]
    found = []
    for payoffs in members_in_integers(whole):
        found.append({place for at, place in enumerate(places)
                      if is_saddle(payoffs, at // len(table.columns), at % len(table.columns))})
    some = tuple(place for place in places if any(place in saddles for saddles in found))
    return some, tuple(place for place in places if all(place in saddles for saddles in found))


def members_in_integers(table):
    tables = [table]
    for name in table.names:
        for column in table.columns:
            low, high = table.stretch(name, column)
            tables = [part.changed(name, column, (number, number)) for part in tables for number in range(low, high + 1)]
    for part in tables:
        yield from corners_of(part)


if __name__ == "__main__":
    unittest.main()
