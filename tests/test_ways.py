"""Ways of webs, beside an own search and all corners of small webs."""

import itertools
import random
import unittest

from cornersure.errors import InvalidWay, UnknownPlace
from cornersure.ways import (
    all_ways, better_way, calm_ways, heights, is_possible_way, is_sure_way, least_way_costs, possible_way_ties,
    possible_ways, sure_way_ties, way_cost, way_loss)
from cornersure.webs import Web, ends
from tests.choices import OwnChoice, corner_costs
from tests.drawn import any_fraction, any_web, as_number, as_numbers
from tests.samples import Case


def own_ways(web, place, other):
    """All orders of some of the other places that make a way."""
    pairs = dict(web.ties)
    between = [letter for letter in web.places if letter not in (place, other)]
    found = []
    for many in range(len(between) + 1):
        for order in itertools.permutations(between, many):
            way = place + "".join(order) + other
            if all(pair in pairs for pair in ties_of(way)):
                found.append(way)
    return sorted(found)


def ties_of(way):
    return ["".join(sorted(pair)) for pair in zip(way, way[1:])]


def drawn_choices(seed, many, ties=7):
    """Webs with two of their places, and the choice between the ways."""
    source = random.Random(seed)
    for at in range(many):
        web = any_web(source, source.choice((2, 6, 1000)), source.randint(2, 5), source.randint(3, ties) if at % 4 else None)
        place, other = source.sample(web.places, 2)
        if len(web) <= 8:
            yield web, place, other, dict(web.ties), {way: ties_of(way) for way in own_ways(web, place, other)}


def greatest_webs():
    pairs = "ab ac ad bc bd be ce de df ef".split()
    for low, high in ((0, 1000), (0, 0), (1000, 1000), (1, 2)):
        yield Web("abcdef", tuple((pair, (low, high)) for pair in pairs))
    source = random.Random(130)
    for _ in range(20):
        yield any_web(source, 1000, 6, 10)


class AllWaysTest(Case):
    def test_beside_an_own_search(self):
        source = random.Random(131)
        for web in [*[any_web(source) for _ in range(80)], *greatest_webs()]:
            for place, other in itertools.permutations(web.places, 2):
                self.assertEqual(all_ways(web, place, other), tuple(own_ways(web, place, other)))

    def test_costs_by_own_sums(self):
        source = random.Random(132)
        for _ in range(60):
            web = any_web(source)
            member = tuple(any_fraction(source, stretch) for _, stretch in web.ties)
            numbers = dict(zip(dict(web.ties), as_numbers(member)))
            for way in all_ways(web, *source.sample(web.places, 2)):
                self.assertEqual(as_number(way_cost(web, way, member)), sum(numbers[pair] for pair in ties_of(way)))


class CornersTest(Case):
    def test_beside_all_corners(self):
        seen = set()
        for web, place, other, stretches, lots in drawn_choices(133, 140):
            own = OwnChoice(stretches, lots)
            self.assertEqual(least_way_costs(web, place, other), own.least_costs)
            self.assertEqual(possible_ways(web, place, other), own.possible)
            self.assertEqual(calm_ways(web, place, other), own.calm)
            self.assertEqual(possible_way_ties(web, place, other), own.possible_items)
            self.assertEqual(sure_way_ties(web, place, other), own.sure_items)
            for way in lots:
                self.assertIs(is_possible_way(web, way), way in own.possible)
                self.assertIs(is_sure_way(web, way), way in own.sure)
                self.assertEqual(way_loss(web, way), own.loss[way])
                self.assertIs(way_loss(web, way).__class__, int)
            seen.add((own.possible == tuple(lots), len(own.sure) > 0, len(own.calm) > 1, own.sure_items == ()))
        self.assertGreater(len(seen), 6)

    def test_costs_of_best_ways_are_integers(self):
        for web in greatest_webs():
            for place, other in itertools.permutations(web.places, 2):
                low, high = least_way_costs(web, place, other)
                self.assertEqual((low.__class__, high.__class__, 0 <= low <= high), (int, int, True))

    def test_a_way_back_is_as_good(self):
        for web in greatest_webs():
            for way in all_ways(web, web.places[0], web.places[-1]):
                self.assertEqual(is_possible_way(web, way), is_possible_way(web, way[::-1]))
                self.assertEqual(way_loss(web, way), way_loss(web, way[::-1]))

    def test_all_ties_without_length(self):
        web = Web("abc", (("ab", (0, 0)), ("ac", (0, 0)), ("bc", (0, 0))))
        self.assertEqual((possible_ways(web, "a", "c"), calm_ways(web, "a", "c")), (("abc", "ac"), ("abc", "ac")))
        self.assertEqual((sure_way_ties(web, "a", "c"), possible_way_ties(web, "a", "c")), ((), ("ab", "ac", "bc")))
        self.assertEqual((is_sure_way(web, "abc"), heights(web, "abc"), better_way(web, "abc")), (True, (0, 0, 0), None))


class PapersTest(Case):
    def assert_heights(self, web, way, told):
        self.assertEqual((told.__class__, [part.__class__ for part in told]), (tuple, [int] * len(web.places)))
        numbers = dict(zip(web.places, told))
        corner = {pair: as_number(number) for (pair, _), number in zip(web.ties, ends(web, tuple(sorted(ties_of(way)))))}
        for pair, number in corner.items():
            self.assertLessEqual(abs(numbers[pair[0]] - numbers[pair[1]]), number)
        self.assertEqual(numbers[way[-1]] - numbers[way[0]], sum(corner[pair] for pair in ties_of(way)))

    def assert_papers(self, web, stretches, lots):
        for way in lots:
            _, own = corner_costs(stretches, lots, way, 0)
            told = heights(web, way)
            self.assertEqual(told is not None, own[way] == min(own.values()))
            self.assertTrue(told is None or self.assert_heights(web, way, told) is None)
            _, far = corner_costs(stretches, lots, way, 1)
            better = better_way(web, way)
            self.assertEqual(better is None, far[way] == min(far.values()))
            self.assertTrue(better is None or far[better] < far[way])
            self.assertEqual((told is not None, better is None), (is_possible_way(web, way), is_sure_way(web, way)))

    def test_heights_and_better_ways(self):
        for web, _, _, stretches, lots in drawn_choices(134, 140, 10):
            self.assert_papers(web, stretches, lots)
        for web in greatest_webs():
            first, second, *_, last = web.places
            for place, other in ((first, last), (second, first)):
                self.assert_papers(web, dict(web.ties), {way: ties_of(way) for way in own_ways(web, place, other)})


class WrongPlacesTest(Case):
    def test_the_same_place_and_no_way(self):
        web = Web("abc", (("ab", (0, 1)), ("bc", (2, 3))))
        for action in (all_ways, least_way_costs, possible_ways, calm_ways, possible_way_ties, sure_way_ties):
            for place in web.places:
                self.assert_given(UnknownPlace, place, action, web, place, place)
        for way in ("ac", "aba", "abca", "a", "", "ad", "abd", "acb", "abb", "ab c", "AB", "ab\n"):
            for action in (is_possible_way, is_sure_way, way_loss, heights, better_way):
                self.assert_given(InvalidWay, way, action, web, way)


if __name__ == "__main__":
    unittest.main()
