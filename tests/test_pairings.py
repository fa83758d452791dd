"""Pairings of tables, beside all corners of small tables."""

import itertools
import random
import unittest

from cornersure.errors import InvalidPairing, Narrow
from cornersure.pairings import (
    all_pairings, better_pairing, calm_pairings, is_possible_pairing, is_sure_pairing, least_pairing_costs,
    pairing_cost, pairing_loss, pairing_prices, possible_pairings, possible_places, sure_places)
from cornersure.tables import Table
from tests.choices import OwnChoice, corner_costs
from tests.drawn import any_member, as_number, as_numbers, greatest_tables, small_table
from tests.samples import Case

OF_TABLES = (all_pairings, least_pairing_costs, possible_pairings, calm_pairings, possible_places, sure_places)
OF_PAIRINGS = (is_possible_pairing, is_sure_pairing, pairing_loss, pairing_prices, better_pairing)


def shuffled(source, table):
    """The same table with names that do not ascend."""
    names = source.sample("abcdefghijklm", len(table))
    columns = tuple(source.sample("pqrstuvw", len(table.columns)))
    return Table(columns, tuple((name, row) for name, (_, row) in zip(names, table.rows)))


def own_choice(table):
    stretches = {(name, column): table.stretch(name, column) for name in table.names for column in table.columns}
    lots = {pairing: list(zip(pairing, table.columns))
            for pairing in itertools.permutations(table.names, len(table.columns))}
    return stretches, lots


def drawn_tables(seed, many):
    source = random.Random(seed)
    for columns, rows in ((1, 1), (1, 3), (1, 6), (2, 2), (2, 3), (2, 4), (3, 3)):
        for at in range(many):
            yield source, shuffled(source, small_table(source, columns, rows, (1, 4, 9000)[at % 3]))


class AllPairingsTest(Case):
    def test_ascending(self):
        for _, table in drawn_tables(141, 3):
            own = tuple(sorted(itertools.permutations(table.names, len(table.columns))))
            self.assertEqual(all_pairings(table), own)
        self.assertEqual(len(all_pairings(greatest_tables(random.Random(142))[0])), 1680)

    def test_costs_by_own_sums(self):
        source = random.Random(143)
        for _, table in drawn_tables(144, 4):
            member = any_member(source, table)
            numbers = {name: as_numbers(row) for name, row in zip(table.names, member)}
            for pairing in all_pairings(table):
                own = sum(numbers[name][at] for at, name in enumerate(pairing))
                self.assertEqual(as_number(pairing_cost(table, pairing, member)), own)


class CornersTest(Case):
    def test_beside_all_corners(self):
        seen = set()
        for _, table in drawn_tables(145, 9):
            stretches, lots = own_choice(table)
            own = OwnChoice(stretches, lots)
            self.assertEqual(least_pairing_costs(table), own.least_costs)
            self.assertEqual((possible_pairings(table), calm_pairings(table)), (own.possible, own.calm))
            self.assertEqual((possible_places(table), sure_places(table)), (own.possible_items, own.sure_items))
            for pairing in lots:
                self.assertIs(is_possible_pairing(table, pairing), pairing in own.possible)
                self.assertIs(is_sure_pairing(table, pairing), pairing in own.sure)
                self.assertEqual(pairing_loss(table, pairing), own.loss[pairing])
                self.assertIs(pairing_loss(table, pairing).__class__, int)
            seen.add((len(own.possible) == len(lots), len(own.sure) > 0, len(own.calm) > 1, own.sure_items == ()))
        self.assertGreater(len(seen), 6)

    def test_tables_of_all_sizes_at_the_two_corners(self):
        source = random.Random(146)
        for columns, rows in ((3, 5), (4, 4), (4, 5), (4, 6)):
            table = shuffled(source, small_table(source, columns, rows, 5))
            stretches, lots = own_choice(table)
            own = {pairing: corner_costs(stretches, lots, pairing, 0)[1] for pairing in lots}
            far = {pairing: corner_costs(stretches, lots, pairing, 1)[1] for pairing in lots}
            possible = sorted(pairing for pairing in lots if own[pairing][pairing] == min(own[pairing].values()))
            losses = {pairing: far[pairing][pairing] - min(far[pairing].values()) for pairing in lots}
            calm = sorted(pairing for pairing in lots if losses[pairing] == min(losses.values()))
            self.assertEqual((possible_pairings(table), calm_pairings(table)), (tuple(possible), tuple(calm)))
            self.assertEqual({pairing: pairing_loss(table, pairing) for pairing in calm},
                             {pairing: losses[pairing] for pairing in calm})

    def test_numbers_below_0(self):
        table = Table(("x", "y"), (("p", ((-10000, -9999), (-3, 2))), ("q", ((-10000, 10000), (-5, -4)))))
        self.assertEqual(least_pairing_costs(table), (-10005, -10003))
        self.assertEqual((possible_pairings(table), sure_places(table)), ((("p", "q"), ("q", "p")), ()))
        # Far corners: -9999 - 4 beside -10000 - 3, and 10000 + 2 beside -10000 - 5.
        self.assertEqual([pairing_loss(table, pairing) for pairing in all_pairings(table)], [0, 20007])


class PapersTest(Case):
    def assert_prices(self, table, pairing, told, numbers):
        rows, columns = told
        self.assertEqual((told.__class__, rows.__class__, columns.__class__), (tuple,) * 3)
        self.assertEqual((len(rows), len(columns)), (len(table), len(table.columns)))
        self.assertEqual({part.__class__ for part in rows + columns}, {int})
        self.assertGreaterEqual(min(rows), 0)
        for name, price in zip(table.names, rows):
            self.assertTrue(name in pairing or price == 0)
            for column, number in zip(table.columns, columns):
                self.assertLessEqual(number - price, numbers[name, column])
                if (name, column) in zip(pairing, table.columns):
                    self.assertEqual(number - price, numbers[name, column])

    def assert_papers(self, table, pairings, stretches, lots):
        for pairing in pairings:
            numbers, own = corner_costs(stretches, lots, pairing, 0)
            told = pairing_prices(table, pairing)
            self.assertEqual(told is not None, own[pairing] == min(own.values()))
            if told is not None:
                self.assert_prices(table, pairing, told, numbers)
            _, far = corner_costs(stretches, lots, pairing, 1)
            better = better_pairing(table, pairing)
            self.assertEqual(better is None, far[pairing] == min(far.values()))
            self.assertTrue(better is None or far[better] < far[pairing])

    def test_prices_and_better_pairings(self):
        for _, table in drawn_tables(147, 9):
            stretches, lots = own_choice(table)
            self.assert_papers(table, lots, stretches, lots)

    def test_tables_of_all_sizes(self):
        source = random.Random(148)
        tables = [shuffled(source, small_table(source, *size, 9)) for size in ((3, 6), (4, 4), (4, 5), (4, 8))]
        for table in tables + greatest_tables(source):
            stretches, lots = own_choice(table)
            pairings = [*source.sample(list(lots), 5), *possible_pairings(table)[:5], *calm_pairings(table)[:5]]
            self.assert_papers(table, pairings, stretches, lots)


class NarrowTest(Case):
    def test_fewer_rows_than_columns(self):
        for columns, rows in ((2, 1), (3, 1), (3, 2), (4, 3)):
            table = small_table(random.Random(149), columns, rows)
            for action in OF_TABLES:
                self.assert_given_equal(Narrow, rows, action, table)
            for pairing in (table.names, table.names + ("z",), ("a",) * columns, None):
                for action in OF_PAIRINGS:
                    self.assert_given(InvalidPairing, pairing, action, table, pairing)
                self.assert_given(InvalidPairing, pairing, pairing_cost, table, pairing, None)

    def test_as_many_rows_as_columns(self):
        table = Table(("x",), (("r", ((0, 3),)),))
        self.assertEqual((all_pairings(table), sure_places(table)), ((("r",),), (("r", "x"),)))
        self.assertEqual((pairing_prices(table, ("r",)), better_pairing(table, ("r",))), (((0,), (0,)), None))


if __name__ == "__main__":
    unittest.main()
