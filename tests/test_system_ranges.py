"""The ends of numbers and of costs in sure and in possible answers."""

import random
import unittest

from cornersure.errors import NoAnswer
from cornersure.systems import possible_cost, possible_range, sure_cost, sure_range
from cornersure.tables import Table
from tests.drawn import any_weights, as_number, as_pair, signs_of
from tests.oracles import cost_range
from tests.samples import Case
from tests.test_systems import all_systems, drawn_systems, possible_walls, sure_walls

NOTHING = "no answer"


def told(action, *args):
    try:
        return action(*args)
    except NoAnswer as error:
        if vars(error):
            raise AssertionError("NoAnswer tells nothing") from error
        return NOTHING


def own_ends(systems, weights):
    """The ends of the cost over all these systems of rows, as the package tells them."""
    ranges = [ends for ends in (cost_range(walls, weights) for walls in systems) if ends is not None]
    if not ranges:
        return NOTHING
    lows, highs = [low for low, _ in ranges], [high for _, high in ranges]
    return (None if None in lows else as_pair(min(lows)), None if None in highs else as_pair(max(highs)))


class RangesTest(Case):
    def assert_as_own(self, table, bounds, weights, systems, cost, ends):
        own = own_ends(systems, weights)
        self.assertEqual(told(cost, table, bounds, weights), own if own == NOTHING else own[0])
        for at, column in enumerate(table.columns):
            unit = [int(at == other) for other in range(len(table.columns))]
            self.assertEqual(told(ends, table, bounds, column), own_ends(systems, unit))
        return own

    def test_beside_own_ends(self):
        sure, possible = [], []
        for source, table, bounds in drawn_systems(81, 14):
            weights = any_weights(source, len(table.columns))
            systems = [sure_walls(table, bounds)]
            sure.append(self.assert_as_own(table, bounds, weights, systems, sure_cost, sure_range))
            systems = [possible_walls(table, bounds, signs) for signs in signs_of(table)]
            possible.append(self.assert_as_own(table, bounds, weights, systems, possible_cost, possible_range))
        for seen in (sure, possible):
            self.assertGreater(seen.count(NOTHING), 3)
            self.assertGreater(seen.count((None, None)), 3)
            self.assertGreater(len([ends for ends in seen if ends != NOTHING and None not in ends]), 3)

    def test_ends_are_those_of_costs(self):
        for table, bounds in all_systems(random.Random(82)):
            for ends_of, cost_of in ((sure_range, sure_cost), (possible_range, possible_cost)):
                for at, column in enumerate(table.columns):
                    ends = told(ends_of, table, bounds, column)
                    units = [tuple(sign * (at == other) for other in range(len(table.columns))) for sign in (1, -1)]
                    costs = [told(cost_of, table, bounds, unit) for unit in units]
                    if NOTHING in costs:
                        self.assertEqual([ends, *costs], [NOTHING] * 3)
                    else:
                        self.assertEqual(ends[0], costs[0])
                        self.assertEqual(ends[1], costs[1] and (-costs[1][0], costs[1][1]))

    def test_sure_ends_lie_within_possible_ones(self):
        for _, table, bounds in drawn_systems(83, 10):
            for column in table.columns:
                sure, possible = told(sure_range, table, bounds, column), told(possible_range, table, bounds, column)
                if sure != NOTHING:
                    for at, sign in ((0, 1), (1, -1)):
                        self.assertTrue(possible[at] is None or sure[at] is not None and
                                        sign * as_number(possible[at]) <= sign * as_number(sure[at]))

    def test_ends_that_there_are_not(self):
        table = Table(("x", "y"), (("r", ((1, 1), (0, 0))), ("s", ((-1, -1), (1, 1)))))
        bounds = ((3, 4), (0, 1))
        self.assertEqual(sure_range(table, bounds, "x"), (None, (3, 1)))
        self.assertEqual(sure_range(table, bounds, "y"), (None, (3, 1)))
        self.assertEqual(possible_range(table, bounds, "x"), (None, (4, 1)))
        self.assertEqual(possible_range(table, bounds, "y"), (None, (5, 1)))
        self.assertEqual([sure_cost(table, bounds, weights) for weights in ((-1, -1), (1, 0), (-2, 0), (0, 0))],
                         [(-6, 1), None, (-6, 1), (0, 1)])
        self.assertEqual([possible_cost(table, bounds, weights) for weights in ((-1, -1), (1, 0), (0, 0))],
                         [(-9, 1), None, (0, 1)])

    def test_numbers_around_a_gap(self):
        # The product with any number from -1 to 1 is at most -2: so x is at most -2, or at least 2.
        table = Table(("x",), (("r", ((-1, 1),)), ("s", ((1, 1),)), ("t", ((-1, -1),))))
        bounds = ((-2, -2), (5, 5), (7, 7))
        self.assertEqual(possible_range(table, bounds, "x"), ((-7, 1), (5, 1)))
        self.assertEqual(possible_cost(table, bounds, (-3,)), (-15, 1))
        for action, last in ((sure_range, "x"), (sure_cost, (1,))):
            self.assertEqual(told(action, table, bounds, last), NOTHING)

    def test_costs_at_the_bounds(self):
        table = Table(("x",), (("r", ((-1, -1),)),))
        self.assertEqual(sure_cost(table, ((-10000, 10000),), (1000,)), (10000000, 1))
        self.assertEqual(possible_cost(table, ((-10000, 10000),), (1000,)), (-10000000, 1))
        self.assertIsNone(possible_cost(table, ((-10000, 10000),), (-1000,)))


if __name__ == "__main__":
    unittest.main()
