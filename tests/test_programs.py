"""Linear programs: numbers that keep limits at the least cost, and loads that show it."""

import itertools
import random
import unittest
from fractions import Fraction

from cornersure.programs import Program
from tests.drawn import as_number
from tests.oracles import cost_range, dot, solved

# Programs that go round in circles by other ways to choose what is exchanged (Beale, Chvatal, Kuhn, Yudin and Golshtein).
DEGENERATE = (
    ([[25, -6000, -4, 900], [25, -4500, -1, 150], [0, 0, 1, 0]], [0, 0, 1], [-75, 15000, -2, 600], Fraction(-5)),
    ([[1, -11, -5, 18], [1, -3, -1, 2], [1, 0, 0, 0]], [0, 0, 1], [-10, 57, 9, 24], Fraction(-1)),
    ([[-2, -9, 1, 9], [1, 3, -1, -6], [2, 3, -1, -12]], [0, 0, 2], [-2, -3, 1, 12], Fraction(-2)),
    ([[1, -2, -3, 4], [4, -3, -2, 1], [1, 1, 1, 1]], [0, 0, 1], [-1, 1, -1, 1], None),
)


def least_by_corners(rows, limits, costs):
    """The least cost by all corners; None if there are none."""
    many = len(costs)
    walls = [*zip(rows, limits), *[([-(at == other) for other in range(many)], 0) for at in range(many)]]
    found = []
    for chosen in itertools.combinations(walls, many):
        numbers = solved([row for row, _ in chosen], [limit for _, limit in chosen])
        if numbers and all(dot(row, numbers) <= limit for row, limit in walls):
            found.append(dot(costs, numbers))
    return min(found, default=None)


class ProgramsTest(unittest.TestCase):
    def assert_program(self, rows, limits, costs):
        """By own sums: the numbers keep the limits and cost the least, or loads show that none do."""
        program = Program(rows, limits, costs)
        least = least_by_corners(rows, limits, costs)
        self.assertEqual(program.is_kept(), least is not None)
        self.assertGreater(program.bottom, 0)
        if least is None:
            loads = program.barring_tops()
            self.assertGreaterEqual(min(loads), 0)
            self.assertGreaterEqual(min(dot(loads, column) for column in zip(*rows)), 0)
            self.assertLess(dot(loads, limits), 0)
            return None
        numbers = [Fraction(top, program.bottom) for top in program.number_tops()]
        self.assertGreaterEqual(min(numbers), 0)
        self.assertTrue(all(dot(row, numbers) <= limit for row, limit in zip(rows, limits)))
        walls = [*zip(rows, limits), *[([-(at == other) for other in costs_at(costs)], 0) for at in costs_at(costs)]]
        if cost_range(walls, costs)[0] is None:
            self.assertIsNone(program.least_cost())
            return None
        self.assertEqual((as_number(program.least_cost()), dot(costs, numbers)), (least, least))
        loads = [Fraction(top, program.bottom) for top in program.load_tops()]
        self.assertGreaterEqual(min(loads), 0)
        self.assertTrue(all(dot(loads, column) >= -cost for column, cost in zip(zip(*rows), costs)))
        self.assertEqual(dot(loads, limits), -least)
        return least

    def test_degenerate_programs(self):
        for rows, limits, costs, least in DEGENERATE:
            for order in itertools.permutations(range(4)):
                turned = [[row[at] for at in order] for row in rows]
                for lines in itertools.permutations(range(3)):
                    found = self.assert_program([turned[at] for at in lines], [limits[at] for at in lines],
                                                [costs[at] for at in order])
                    self.assertTrue(least is None or found == least, (rows, found))

    def test_drawn_programs(self):
        source = random.Random(161)
        seen = []
        for _ in range(250):
            many, lines = source.randint(1, 3), source.randint(1, 5)
            rows = [[source.randint(-2, 2) for _ in range(many)] for _ in range(lines)]
            limits = [source.choice((0, 0, 1, -1, 3)) for _ in range(lines)]
            seen.append(self.assert_program(rows, limits, [source.randint(-3, 3) for _ in range(many)]))
        self.assertGreater(len(set(seen)), 6)

    def test_what_it_is_passed_stays_as_it_is(self):
        rows, limits, costs = [[1, -2], [-1, 3]], [4, -5], [2, 3]
        Program(rows, limits, costs)
        self.assertEqual((rows, limits, costs), ([[1, -2], [-1, 3]], [4, -5], [2, 3]))


def costs_at(costs):
    return range(len(costs))


if __name__ == "__main__":
    unittest.main()
