"""Trees of webs, beside an own search and all corners of small webs."""

import itertools
import random
import unittest

from cornersure.errors import InvalidTree
from cornersure.trees import (
    all_trees, calm_trees, exchange, is_possible_tree, is_sure_tree, least_tree_costs, possible_tree_ties,
    possible_trees, sure_tree_ties, tree_cost, tree_loss)
from cornersure.webs import Web, ends
from tests.choices import OwnChoice, corner_costs
from tests.drawn import any_fraction, any_web, as_number, as_numbers
from tests.samples import Case
from tests.test_ways import greatest_webs, ties_of


def own_trees(web):
    """All lots of ties that join the places, one fewer than these: none of them comes back to where it was."""
    found = []
    for lot in itertools.combinations(sorted(dict(web.ties)), len(web.places) - 1):
        part = {place: place for place in web.places}
        for one, other in lot:
            part = {place: part[one] if part[place] == part[other] else part[place] for place in part}
        if len(set(part.values())) == 1:
            found.append(lot)
    return found


def way_in(tree, place, other):
    """The ties on the one way by the ties of a tree."""
    letters = sorted({letter for pair in tree for letter in pair})
    for many in range(2, len(letters) + 1):
        for order in itertools.permutations([letter for letter in letters if letter not in (place, other)], many - 2):
            pairs = ties_of(place + "".join(order) + other)
            if all(pair in tree for pair in pairs):
                return pairs
    return None


def drawn_choices(seed, many, ties=7):
    """Webs, and the choice between the trees."""
    source = random.Random(seed)
    for at in range(many):
        web = any_web(source, source.choice((2, 6, 1000)), source.randint(2, 5), source.randint(3, ties) if at % 4 else None)
        if len(web) <= 8:
            yield web, dict(web.ties), {tree: tree for tree in own_trees(web)}


class AllTreesTest(Case):
    def test_beside_an_own_search(self):
        source = random.Random(231)
        for web in [*[any_web(source) for _ in range(80)], *greatest_webs()]:
            told = all_trees(web)
            self.assertEqual(told, tuple(own_trees(web)))
            self.assertEqual(list(told), sorted(told))
            self.assertEqual({part.__class__ for part in told}, {tuple})

    def test_how_many_there_are(self):
        for places, many in (("ab", 1), ("abc", 3), ("abcd", 16), ("abcde", 125)):
            every = tuple(("".join(pair), (0, 1)) for pair in itertools.combinations(places, 2))
            self.assertEqual(len(all_trees(Web(places, every))), many)
        self.assertEqual(all_trees(Web("az", (("az", (3, 4)),))), (("az",),))
        self.assertEqual(all_trees(Web("abc", (("ac", (1, 1)), ("bc", (1, 1))))), (("ac", "bc"),))

    def test_costs_by_own_sums(self):
        source = random.Random(232)
        for _ in range(60):
            web = any_web(source)
            member = tuple(any_fraction(source, stretch) for _, stretch in web.ties)
            numbers = dict(zip(dict(web.ties), as_numbers(member)))
            for tree in all_trees(web):
                self.assertEqual(as_number(tree_cost(web, tree, member)), sum(numbers[pair] for pair in tree))


class CornersTest(Case):
    def test_beside_all_corners(self):
        seen = set()
        for web, stretches, lots in drawn_choices(233, 120):
            own = OwnChoice(stretches, lots)
            self.assertEqual(least_tree_costs(web), own.least_costs)
            self.assertEqual((possible_trees(web), calm_trees(web)), (own.possible, own.calm))
            self.assertEqual((possible_tree_ties(web), sure_tree_ties(web)), (own.possible_items, own.sure_items))
            for tree in lots:
                self.assertIs(is_possible_tree(web, tree), tree in own.possible)
                self.assertIs(is_sure_tree(web, tree), tree in own.sure)
                self.assertEqual(tree_loss(web, tree), own.loss[tree])
                self.assertIs(tree_loss(web, tree).__class__, int)
            seen.add((own.possible == tuple(lots), len(own.sure) > 0, len(own.calm) > 1, own.sure_items == ()))
        self.assertGreater(len(seen), 6)

    def test_ties_by_the_ways_without_them(self):
        for web in greatest_webs():
            possible, sure = [], []
            for pair, (low, high) in web.ties:
                others = {name: stretch for name, stretch in web.ties if name != pair}
                ways = [order for order in self.ways_without(web, pair)]
                if all(max(others[name][1] for name in way) >= low for way in ways):
                    possible.append(pair)
                if all(max(others[name][0] for name in way) > high for way in ways):
                    sure.append(pair)
            self.assertEqual((possible_tree_ties(web), sure_tree_ties(web)), (tuple(possible), tuple(sure)))

    def ways_without(self, web, pair):
        between = [letter for letter in web.places if letter not in pair]
        for many in range(1, len(between) + 1):
            for order in itertools.permutations(between, many):
                way = ties_of(pair[0] + "".join(order) + pair[1])
                if all(name in dict(web.ties) for name in way):
                    yield way

    def test_all_ties_alike(self):
        web = Web("abc", (("ab", (0, 0)), ("ac", (0, 0)), ("bc", (0, 0))))
        every = (("ab", "ac"), ("ab", "bc"), ("ac", "bc"))
        self.assertEqual((possible_trees(web), calm_trees(web), sure_tree_ties(web)), (every, every, ()))
        self.assertEqual((is_sure_tree(web, every[0]), exchange(web, every[0]), tree_loss(web, every[0])), (True, None, 0))

    def test_ties_that_every_tree_has(self):
        web = Web("abcd", (("ab", (5, 9)), ("bc", (0, 1)), ("bd", (2, 3)), ("cd", (7, 8))))
        self.assertEqual((sure_tree_ties(web), possible_tree_ties(web)), (("ab", "bc", "bd"), ("ab", "bc", "bd")))
        self.assertEqual((possible_trees(web), least_tree_costs(web)), ((("ab", "bc", "bd"),), (7, 13)))


class ExchangeTest(Case):
    def assert_exchange(self, web, tree, stretches, lots):
        numbers, own = corner_costs(stretches, lots, tree, 0)
        told = exchange(web, tree)
        self.assertEqual(told is None, own[tree] == min(own.values()))
        self.assertEqual(told is None, is_possible_tree(web, tree))
        if told is not None:
            into, out = told
            self.assertEqual(told.__class__, tuple)
            self.assertNotIn(into, tree)
            self.assertIn(into, stretches)
            self.assertIn(out, way_in(tree, *into))
            self.assertGreater(numbers[out], numbers[into])

    def test_beside_own_ways(self):
        for web, stretches, lots in drawn_choices(234, 120, 10):
            for tree in lots:
                self.assert_exchange(web, tree, stretches, lots)

    def test_greatest_webs(self):
        for web in greatest_webs():
            lots = {tree: tree for tree in own_trees(web)}
            for tree in list(lots)[::7]:
                self.assert_exchange(web, tree, dict(web.ties), lots)


class WrongTreesTest(Case):
    def test_lots_that_are_no_trees(self):
        web = Web("abcd", (("ab", (1, 3)), ("ac", (2, 2)), ("bc", (1, 1)), ("bd", (3, 6)), ("cd", (2, 5))))
        member = ends(web, ())
        lots = [lot for many in range(6) for lot in itertools.product(dict(web.ties), repeat=many)][:4000]
        for lot in lots:
            if lot not in own_trees(web):
                for action in (is_possible_tree, is_sure_tree, tree_loss, exchange):
                    self.assert_given(InvalidTree, lot, action, web, lot)
                self.assert_given(InvalidTree, lot, tree_cost, web, lot, member)
            else:
                self.assertIs(is_possible_tree(web, lot).__class__, bool)


if __name__ == "__main__":
    unittest.main()
