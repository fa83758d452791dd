"""What two fields tell of the same thing is the same; and what is known better loses nothing sure, gains nothing possible."""

import itertools
import random
import unittest
from fractions import Fraction

from cornersure.errors import NoAnswer, NoTimes, TooGreat, TooMany
from cornersure.flows import (
    all_cuts, are_served, can_be_served, cut_room, flow, is_possible_cut, is_sure_cut, most, possible_cut_ties,
    possible_cuts)
from cornersure.games import allows, holds, possible_saddles, sure_saddles, worth, worths
from cornersure.mixes import (
    best_price, corner_game, corner_mix, is_served, mix_ends, possible_mix, sure_game, sure_mix, sure_price)
from cornersure.pairings import (
    is_sure_pairing, least_pairing_costs, pairing_cost, pairing_loss, possible_pairings, possible_places, sure_places)
from cornersure.seats import Counts, can_come, price, seatings, span, sure_seats, surely_comes
from cornersure.sums import foremost, never_below, sum_ends, surely_foremost
from cornersure.systems import possible_answer, sure_answer, sure_cost
from cornersure.tables import Table, all_high, all_low, exact, is_within, turned
from cornersure.times import Times, as_system, lead, schedule
from cornersure.trees import all_trees, is_sure_tree, least_tree_costs, possible_trees, sure_tree_ties, tree_cost, tree_loss
from cornersure.ways import all_ways, is_sure_way, least_way_costs, possible_ways, way_cost, way_loss
from cornersure.webs import Web, ends
from tests.drawn import (
    any_counts, any_mix, any_web, as_number, as_pair, corners_of, length, signs_of, small_stretches, small_table,
    small_times)
from tests.samples import Case
from tests.test_flows import net_out, ties_out
from tests.test_seats import any_seating
from tests.test_trees import way_in


def drawn_tables(seed, many, columns=3, rows=4):
    source = random.Random(seed)
    for _ in range(many):
        yield source, small_table(source, source.randint(1, columns), source.randint(1, rows), source.choice((2, 6)))


def drawn_webs(seed, many, most=9):
    source = random.Random(seed)
    for _ in range(many):
        web = any_web(source, most, source.randint(2, 5))
        yield source, web, *source.sample(web.places, 2)


def narrowed(source, stretch):
    low, high = stretch
    return tuple(sorted((source.randint(low, high), source.randint(low, high))))


def narrow_table(source, table):
    return Table(table.columns, tuple((name, tuple(narrowed(source, stretch) for stretch in row)) for name, row in table.rows))


class TablesTest(Case):
    def test_sums_beside_games(self):
        for source, table in drawn_tables(361, 60):
            parts = [source.randint(0, 3) for _ in table.columns]
            parts[0] += 1
            weights, mix = tuple(parts), tuple(as_pair(Fraction(part, sum(parts))) for part in parts)
            every = [sum_ends(table, name, weights) for name in table.names]
            self.assertEqual(as_number(allows(table, mix)) * sum(parts), max(high for _, high in every))
            self.assertEqual(holds(turned(table), mix), as_pair(-as_number(allows(table, mix))))
            # A pure mix of a row holds the least number of it, by the single weights.
            for at, name in enumerate(table.names):
                pure = tuple((int(other == at), 1) for other in range(len(table)))
                units = [tuple(int(other == column) for other in range(len(weights))) for column in range(len(weights))]
                self.assertEqual(as_number(holds(table, pure)), min(sum_ends(table, name, unit)[0] for unit in units))

    def test_rows_that_are_never_below_others_are_as_good_without_these(self):
        seen = 0
        for _, table in drawn_tables(362, 150):
            for name, other in itertools.permutations(table.names, 2):
                if never_below(table, name, other):
                    seen += 1
                    self.assertEqual(worths(table.without(other)), worths(table))
        self.assertGreater(seen, 30)

    def test_mixes_beside_games(self):
        seen = set()
        for source, table in drawn_tables(363, 200, 2):
            target = small_stretches(source, len(table.columns))
            for signs in signs_of(table):
                game = corner_game(table, target, signs)
                self.assertEqual(worths(game)[0][0] >= 0, corner_mix(table, target, signs) is not None)
            told = [corner_mix(table, target, signs) is not None for signs in signs_of(table)]
            self.assertIs(is_served(table, target), all(told))
            try:
                self.assertEqual(worths(sure_game(table, target))[0][0] >= 0, sure_mix(table, target) is not None)
            except (TooGreat, TooMany):
                continue
            seen.add((is_served(table, target), sure_mix(table, target) is not None))
        self.assertEqual(len(seen), 3)

    def test_mixes_beside_systems(self):
        seen = set()
        for source, table in drawn_tables(364, 150, 2, 2):
            target = small_stretches(source, len(table.columns))
            system, bounds = self.system_of(table, target)
            self.assertEqual(sure_answer(system, bounds) is None, sure_mix(table, target) is None)
            self.assertEqual(possible_answer(system, bounds) is None, possible_mix(table, target) is None)
            prices = tuple(source.randint(0, 9) for _ in table.names)
            try:
                self.assertEqual(sure_cost(system, bounds, prices), sure_price(table, target, prices))
            except NoAnswer:
                self.assertIsNone(sure_price(table, target, prices))
            seen.add((sure_mix(table, target) is None, possible_mix(table, target) is None))
            self.assertTrue(best_price(table, target, prices) is None or possible_mix(table, target) is not None)
        self.assertEqual(len(seen), 3)

    def system_of(self, table, target):
        """The shares as columns: sums within the target, shares from 0 on, their sum 1."""
        many, rows, bounds = len(table), [], []
        for column, (low, high) in enumerate(target):
            stretches = [row[column] for _, row in table.rows]
            rows += [tuple(stretches), tuple((-most, -least) for least, most in stretches)]
            bounds += [(high, high), (-low, -low)]
        for at in range(many):
            rows.append(tuple((-int(at == other), -int(at == other)) for other in range(many)))
            bounds.append((0, 0))
        rows += [((1, 1),) * many, ((-1, -1),) * many]
        bounds += [(1, 1), (-1, -1)]
        return Table(tuple("wxyz"[:many]), tuple((letter, row) for letter, row in zip("abcdefgh", rows))), tuple(bounds)

    def test_ends_of_mixes_beside_members(self):
        for source, table in drawn_tables(365, 40, 2, 2):
            mix = any_mix(source, len(table))
            for at, (low, high) in enumerate(mix_ends(table, mix)):
                sums = [sum(as_number(share) * row[at] for share, row in zip(mix, corner)) for corner in corners_of(table)]
                self.assertEqual((as_number(low), as_number(high)), (min(sums), max(sums)))

    def test_pairings_beside_sums(self):
        for source, table in drawn_tables(366, 80, 1, 6):
            self.assertEqual(possible_pairings(table), tuple(sorted((name,) for name in foremost(table, (-1,)))))
            sure = [name for name in table.names if is_sure_pairing(table, (name,))]
            self.assertEqual(tuple(sure), surely_foremost(table, (-1,)))
            low, high = least_pairing_costs(table)
            self.assertEqual((low, high), (min(sum_ends(table, name, (1,))[0] for name in table.names),
                                           min(sum_ends(table, name, (1,))[1] for name in table.names)))


class TimesTest(Case):
    def test_times_beside_systems(self):
        seen = set()
        source = random.Random(367)
        for _ in range(150):
            times = small_times(source, source.randint(2, 4), source.randint(1, 4))
            table, bounds = as_system(times)
            self.assertEqual(schedule(times) is None, possible_answer(table, bounds) is None)
            self.assertEqual(schedule(times) is None, sure_answer(table, bounds) is None)
            point, later = source.sample(times.points, 2)
            up = tuple((letter == later) - (letter == point) for letter in times.points)
            if schedule(times) is None:
                for action, args in ((lead, (times, point, later)), (sure_cost, (table, bounds, up))):
                    with self.assertRaises((NoTimes, NoAnswer)):
                        action(*args)
            else:
                least, greatest = lead(times, point, later)
                down = tuple(-weight for weight in up)
                costs = sure_cost(table, bounds, up), sure_cost(table, bounds, down)
                self.assertEqual(costs, (least if least is None else (least, 1), greatest if greatest is None else (-greatest, 1)))
                seen.add((least is None, greatest is None))
        self.assertEqual(len(seen), 2)

    def test_times_beside_ways(self):
        for _, web, place, other in drawn_webs(368, 60):
            for end in (0, 1):
                facts = tuple((pair[0], pair[1], (-stretch[end], stretch[end])) for pair, stretch in web.ties)
                cost = least_way_costs(web, place, other)[end]
                self.assertEqual(lead(Times(web.places, facts), place, other), (-cost, cost))


class WebsTest(Case):
    def test_flows_beside_cuts(self):
        for source, web, place, other in drawn_webs(369, 80):
            every = tuple(pair for pair, _ in web.ties)
            for end, low in ((0, every), (1, ())):
                rooms = [as_number(cut_room(web, cut, ends(web, low))) for cut in all_cuts(web, place, other)]
                self.assertEqual(most(web, place, other)[end], min(rooms))
            for cut in all_cuts(web, place, other):
                out = tuple(ties_out(web, cut))
                rest = tuple(pair for pair in every if pair not in out)
                for low, is_best in ((out, is_possible_cut), (rest, is_sure_cut)):
                    great = net_out(web, flow(web, place, other, low), place)
                    told = as_number(cut_room(web, cut, ends(web, low))) == great
                    self.assertIs(is_best(web, place, other, cut), told)
            # A single place that wishes for as much as can flow there is served, for one more it is not.
            for end, action in ((0, are_served), (1, can_be_served)):
                for more in (0, 1):
                    number = most(web, place, other)[end] + more
                    wishes = tuple((number, number) if letter == other else (0, 0) for letter in web.places)
                    self.assertIs(action(web, place, wishes), more == 0)

    def test_trees_beside_ways(self):
        for source, web, place, other in drawn_webs(370, 60):
            member = ends(web, ())
            numbers = {pair: as_number(number) for (pair, _), number in zip(web.ties, member)}
            best = min(all_trees(web), key=lambda tree: as_number(tree_cost(web, tree, member)))
            self.assertEqual(as_number(tree_cost(web, best, member)), least_tree_costs(web)[1])
            # The greatest tie on the way in a best tree is as small as on any way.
            here = max(numbers[pair] for pair in way_in(best, place, other))
            ways = [["".join(sorted(pair)) for pair in zip(way, way[1:])] for way in all_ways(web, place, other)]
            self.assertEqual(here, min(max(numbers[pair] for pair in way) for way in ways))

    def test_webs_that_are_trees(self):
        for source in map(random.Random, range(30)):
            web = any_web(source, 9, source.randint(2, 5), 1)
            tree = tuple(pair for pair, _ in web.ties)
            if len(web) == len(web.places) - 1:
                self.assertEqual((all_trees(web), is_sure_tree(web, tree), sure_tree_ties(web)), ((tree,), True, tree))
                for place, other in itertools.permutations(web.places, 2):
                    (way,) = all_ways(web, place, other)
                    self.assertIs(is_sure_way(web, way), True)
                    lows = [dict(web.ties)["".join(sorted(pair))][0] for pair in zip(way, way[1:])]
                    self.assertEqual(most(web, place, other)[0], min(lows))
                    self.assertEqual(least_way_costs(web, place, other)[0], sum(lows))

    def test_losses_beside_members(self):
        """At its far corner a lot costs as much more than the best one as it can lose."""
        for source, web, place, other in drawn_webs(371, 30):
            for way in all_ways(web, place, other):
                lot = ["".join(sorted(pair)) for pair in zip(way, way[1:])]
                member = ends(web, tuple(pair for pair, _ in web.ties if pair not in lot))
                costs = [as_number(way_cost(web, one, member)) for one in all_ways(web, place, other)]
                self.assertEqual(way_loss(web, way), as_number(way_cost(web, way, member)) - min(costs))
            for tree in all_trees(web)[:9]:
                member = ends(web, tuple(pair for pair, _ in web.ties if pair not in tree))
                costs = [as_number(tree_cost(web, one, member)) for one in all_trees(web)]
                self.assertEqual(tree_loss(web, tree), as_number(tree_cost(web, tree, member)) - min(costs))


class SeatsTest(Case):
    def test_seats_beside_prices(self):
        source = random.Random(372)
        for at in range(200):
            counts, word = any_counts(source, (2, 9, 60)[at % 3]), ("whole", "odd")[at % 2]
            seating = any_seating(source, len(counts))
            told = price(counts, word, seating)
            self.assertEqual(told is not None, seating in seatings(counts, sum(seating), word))
            self.assertEqual(told is not None, can_come(counts, word, seating))
            if surely_comes(counts, word, seating):
                self.assertIsNotNone(told)
            if told is not None:
                spans = [span(counts, sum(seating), word, name) for name in counts.names]
                self.assertTrue(all(low <= many <= high for (low, high), many in zip(spans, seating)))
                self.assertEqual(sure_seats(counts, sum(seating), word), sum(low for low, _ in spans))


class KnownBetterTest(Case):
    """What is known better loses no sure thing and gains no possible one."""

    def assert_better(self, before, after, sure, possible):
        for action in sure:
            self.assertLessEqual(set(action(before)), set(action(after)))
        for action in possible:
            self.assertLessEqual(set(action(after)), set(action(before)))

    def test_tables(self):
        for source, table in drawn_tables(373, 120, 2, 4):
            after = narrow_table(source, table)
            self.assertIs(is_within(after, table), True)
            weights = tuple(source.randint(-2, 2) for _ in table.columns)
            target = small_stretches(source, len(table.columns))
            bounds = small_stretches(source, len(table))
            pairs = list(itertools.permutations(table.names, 2))
            sure = [sure_saddles, lambda one: surely_foremost(one, weights),
                    lambda one: [pair for pair in pairs if never_below(one, *pair)],
                    lambda one: ["sure"] if sure_mix(one, target) else [], lambda one: ["each"] if is_served(one, target) else [],
                    lambda one: ["sure"] if sure_answer(one, bounds) else []]
            possible = [possible_saddles, lambda one: foremost(one, weights),
                        lambda one: ["some"] if possible_mix(one, target) else [],
                        lambda one: ["some"] if possible_answer(one, bounds) else []]
            if len(table) >= len(table.columns):
                sure += [sure_places, lambda one: [lot for lot in possible_pairings(one) if is_sure_pairing(one, lot)]]
                possible += [possible_pairings, possible_places]
                for lot in possible_pairings(after):
                    self.assertLessEqual(pairing_loss(after, lot), pairing_loss(table, lot))
            self.assert_better(table, after, sure, possible)
            (low, high), (first, last) = worths(table), worths(after)
            self.assertTrue(as_number(low) <= as_number(first) <= as_number(last) <= as_number(high))

    def test_webs(self):
        for source, web, place, other in drawn_webs(374, 80):
            after = Web(web.places, tuple((pair, narrowed(source, stretch)) for pair, stretch in web.ties))
            wishes = tuple((0, 0) if letter == place else length(source, 4) for letter in web.places)
            sure = [lambda one: [way for way in all_ways(one, place, other) if is_sure_way(one, way)], sure_tree_ties,
                    lambda one: [tree for tree in all_trees(one) if is_sure_tree(one, tree)],
                    lambda one: [cut for cut in all_cuts(one, place, other) if is_sure_cut(one, place, other, cut)],
                    lambda one: ["served"] if are_served(one, place, wishes) else []]
            possible = [lambda one: possible_ways(one, place, other), possible_trees,
                        lambda one: possible_cuts(one, place, other), lambda one: possible_cut_ties(one, place, other),
                        lambda one: ["served"] if can_be_served(one, place, wishes) else []]
            self.assert_better(web, after, sure, possible)

    def test_times_and_counts(self):
        source = random.Random(375)
        for at in range(100):
            times = small_times(source, 3, 3)
            after = Times(times.points, tuple((one, other, narrowed(source, stretch)) for one, other, stretch in times.facts))
            if schedule(after) is not None:
                self.assertIsNotNone(schedule(times))
                for pair in itertools.permutations("abc", 2):
                    (low, high), (first, last) = lead(times, *pair), lead(after, *pair)
                    self.assertTrue(low is None or first >= low)
                    self.assertTrue(high is None or last <= high)
            counts, word = any_counts(source, 9), ("whole", "odd")[at % 2]
            less = Counts(tuple((name, narrowed(source, stretch)) for name, stretch in counts.parts))
            every = seatings(counts, 4, word)
            self.assert_better(counts, less, [lambda one: [seating for seating in every if surely_comes(one, word, seating)]],
                               [lambda one: seatings(one, 4, word)])
            self.assertLessEqual(sure_seats(counts, 4, word), sure_seats(less, 4, word))

    def test_what_is_known_exactly(self):
        for source, table in drawn_tables(376, 60):
            for member in (all_low(table), all_high(table)):
                known = exact(table, member)
                self.assertEqual(worths(known), (worth(table, member),) * 2)
                self.assertEqual(possible_saddles(known), sure_saddles(known))
                weights = tuple(source.randint(-2, 2) for _ in table.columns)
                self.assertEqual(foremost(known, weights), surely_foremost(known, weights))
                if len(table) >= len(table.columns):
                    for lot in possible_pairings(known):
                        self.assertEqual((is_sure_pairing(known, lot), pairing_loss(known, lot)), (True, 0))
                        self.assertEqual(pairing_cost(known, lot, member), (least_pairing_costs(known)[0], 1))


if __name__ == "__main__":
    unittest.main()
