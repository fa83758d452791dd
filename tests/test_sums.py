"""Sums of rows by weights, beside all corners of drawn tables."""

import random
import unittest

from cornersure.sums import foremost, lead_ends, never_below, sum_ends, surely_foremost
from cornersure.tables import Table
from tests.drawn import any_table, any_weights, corners_of, small_table
from tests.oracles import dot
from tests.samples import Case, crop


def drawn_tables(seed, many):
    source = random.Random(seed)
    for columns, rows in ((1, 1), (1, 4), (2, 1), (2, 2), (2, 3), (3, 2), (4, 1), (4, 2)):
        for _ in range(many):
            yield source, small_table(source, columns, rows)


class SumsTest(Case):
    def test_beside_all_corners(self):
        for source, table in drawn_tables(21, 5):
            weights = any_weights(source, len(table.columns))
            corners = [dict(zip(table.names, corner)) for corner in corners_of(table)]
            for name in table.names:
                sums = [dot(corner[name], weights) for corner in corners]
                self.assertEqual(sum_ends(table, name, weights), (min(sums), max(sums)))
                for other in table.names:
                    leads = [dot(corner[name], weights) - dot(corner[other], weights) for corner in corners]
                    self.assertEqual(lead_ends(table, name, other, weights), (min(leads), max(leads)))

    def test_the_greatest_weights_and_numbers(self):
        table = Table(tuple("abcd"), (("r", ((-10000, 10000),) * 4), ("s", ((10000, 10000),) * 4)))
        self.assertEqual(sum_ends(table, "r", (1000, -1000, 1000, -1000)), (-40000000, 40000000))
        self.assertEqual(sum_ends(table, "s", (1000, -1000, 1000, 1000)), (20000000, 20000000))
        self.assertEqual(lead_ends(table, "r", "s", (-1000,) * 4), (0, 80000000))
        self.assertEqual(sum_ends(table, "r", (0, 0, 0, 0)), (0, 0))

    def test_integers_are_returned(self):
        for pair in (sum_ends(crop(), "rye", (1, 2)), lead_ends(crop(), "rye", "oat", (0, 0))):
            self.assertEqual([part.__class__ for part in (pair, *pair)], [tuple, int, int])

    def test_the_same_row_leads_itself_by_nothing(self):
        self.assertEqual(sum_ends(crop(), "rye", (1, 1)), (3, 7))
        self.assertEqual(lead_ends(crop(), "rye", "rye", (1, 1)), (0, 0))
        self.assertEqual(lead_ends(crop(), "oat", "oat", (-1000, 1000)), (0, 0))


class ForemostTest(Case):
    def test_beside_all_corners(self):
        for source, table in drawn_tables(22, 8):
            weights = any_weights(source, len(table.columns))
            winners = []
            for corner in corners_of(table):
                sums = [dot(row, weights) for row in corner]
                winners.append({name for name, number in zip(table.names, sums) if number == max(sums)})
            some = tuple(name for name in table.names if any(name in won for won in winners))
            each = tuple(name for name in table.names if all(name in won for won in winners))
            self.assertEqual((foremost(table, weights), surely_foremost(table, weights)), (some, each))

    def test_rows_that_are_alike(self):
        alike = Table(("x", "y"), tuple((name, ((1, 1), (2, 2))) for name in ("b", "a", "c")))
        self.assertEqual(foremost(alike, (3, -1)), ("b", "a", "c"))
        self.assertEqual(surely_foremost(alike, (3, -1)), ("b", "a", "c"))
        broad = Table(("x", "y"), tuple((name, ((1, 2), (2, 2))) for name in ("b", "a")))
        self.assertEqual((foremost(broad, (1, 0)), surely_foremost(broad, (1, 0))), (("b", "a"), ()))
        self.assertEqual(surely_foremost(broad, (0, 1)), ("b", "a"))
        touching = Table(("x",), (("low", ((0, 3),)), ("high", ((3, 5),))))
        self.assertEqual((foremost(touching, (1,)), surely_foremost(touching, (1,))), (("low", "high"), ("high",)))
        self.assertEqual(surely_foremost(touching, (-1,)), ("low",))

    def test_without_weights_all_are(self):
        self.assertEqual(foremost(crop(), (0, 0)), crop().names)
        self.assertEqual(surely_foremost(crop(), (0, 0)), crop().names)

    def test_one_row_alone(self):
        table = Table(("x",), (("r", ((-5, 7),)),))
        self.assertEqual((foremost(table, (9,)), surely_foremost(table, (9,))), (("r",), ("r",)))


class NeverBelowTest(Case):
    def test_by_corners_and_single_weights(self):
        for _, table in drawn_tables(23, 8):
            corners = [dict(zip(table.names, corner)) for corner in corners_of(table)]
            singles = [[int(at == chosen) for at in range(len(table.columns))] for chosen in range(len(table.columns))]
            for name in table.names:
                for other in table.names:
                    own = all(dot(corner[name], weights) >= dot(corner[other], weights)
                              for corner in corners for weights in singles)
                    self.assertIs(never_below(table, name, other), own)

    def test_by_weights_of_any_size_from_0_on(self):
        source = random.Random(24)
        for _ in range(200):
            table = any_table(source)
            name, other = source.choice(table.names), source.choice(table.names)
            if never_below(table, name, other):
                weights = tuple(abs(weight) for weight in any_weights(source, len(table.columns)))
                self.assertGreaterEqual(lead_ends(table, name, other, weights)[0], 0)

    def test_the_same_row_and_rows_that_touch(self):
        self.assertIs(never_below(crop(), "rye", "rye"), True)
        table = Table(("x", "y"), (("r", ((2, 4), (3, 3))), ("s", ((0, 2), (3, 3))), ("t", ((0, 3), (0, 0)))))
        self.assertEqual([never_below(table, "r", name) for name in "rst"], [True, True, False])
        self.assertIs(never_below(table, "s", "r"), False)


if __name__ == "__main__":
    unittest.main()
