"""Flows and cuts of webs, beside own sums and all corners of small webs."""

import itertools
import random
import unittest

from cornersure.errors import InvalidCut, InvalidTie, UnknownPlace
from cornersure.flows import (
    all_cuts, calm_cuts, cut_loss, cut_room, flow, is_possible_cut, is_sure_cut, most, possible_cut_ties,
    possible_cuts, sure_cut_ties)
from cornersure.webs import Web, ends
from tests.choices import OwnChoice
from tests.drawn import any_fraction, any_web, as_number, as_numbers
from tests.samples import Case, Plain, odd_values
from tests.test_ways import greatest_webs
from tests.test_webs import yard


def own_lots(places):
    """All ascending strings of one or more of these places."""
    return sorted("".join(lot) for many in range(1, len(places) + 1) for lot in itertools.combinations(places, many))


def own_cuts(web, place, other):
    return [lot for lot in own_lots(web.places) if place in lot and other not in lot]


def ties_out(web, lot):
    return [pair for pair, _ in web.ties if len({letter in lot for letter in pair}) == 2]


def drawn_choices(seed, many):
    """Webs with two of their places, and the choice between the cuts."""
    source = random.Random(seed)
    for at in range(many):
        web = any_web(source, source.choice((2, 6, 1000)), source.randint(2, 6), source.randint(3, 7) if at % 4 else None)
        place, other = source.sample(web.places, 2)
        if len(web) <= 8:
            yield web, place, other, {cut: ties_out(web, cut) for cut in own_cuts(web, place, other)}


def net_out(web, amounts, place):
    """What goes away from a place, less what comes there."""
    return sum((pair[0] == place) * amount - (pair[1] == place) * amount for (pair, _), amount in zip(web.ties, amounts))


class AllCutsTest(Case):
    def test_beside_own_lots(self):
        source = random.Random(241)
        for web in [any_web(source) for _ in range(60)]:
            for place, other in itertools.permutations(web.places, 2):
                told = all_cuts(web, place, other)
                self.assertEqual(told, tuple(own_cuts(web, place, other)))
                self.assertEqual(len(told), 2 ** (len(web.places) - 2))

    def test_room_by_own_sums(self):
        source = random.Random(242)
        for web in [any_web(source) for _ in range(60)]:
            member = tuple(any_fraction(source, stretch) for _, stretch in web.ties)
            numbers = dict(zip(dict(web.ties), as_numbers(member)))
            for lot in own_lots(web.places)[:-1]:
                if lot != web.places:
                    own = sum(numbers[pair] for pair in ties_out(web, lot))
                    self.assertEqual(as_number(cut_room(web, lot, member)), own)

    def test_room_of_what_is_no_cut(self):
        web = yard()
        wrong = [*odd_values(), "", "abcd", "ba", "aa", "e", "ae", "A", "a ", "abcde", ("a",), ["a"], b"a", "acb"]
        for cut in wrong:
            self.assert_given(InvalidCut, cut, cut_room, web, cut, ends(web, ()))
            self.assert_given(InvalidCut, cut, cut_room, web, cut, None)
        self.assertEqual([cut_room(web, cut, ends(web, ())) for cut in ("d", "bcd", "bd")], [(11, 1), (5, 1), (9, 1)])


class CornersTest(Case):
    def test_beside_all_corners(self):
        seen = set()
        for web, place, other, lots in drawn_choices(243, 140):
            own = OwnChoice(dict(web.ties), lots)
            self.assertEqual(most(web, place, other), own.least_costs)
            self.assertEqual((possible_cuts(web, place, other), calm_cuts(web, place, other)), (own.possible, own.calm))
            self.assertEqual(possible_cut_ties(web, place, other), own.possible_items)
            self.assertEqual(sure_cut_ties(web, place, other), own.sure_items)
            for cut in lots:
                self.assertIs(is_possible_cut(web, place, other, cut), cut in own.possible)
                self.assertIs(is_sure_cut(web, place, other, cut), cut in own.sure)
                self.assertEqual(cut_loss(web, place, other, cut), own.loss[cut])
                self.assertIs(cut_loss(web, place, other, cut).__class__, int)
            seen.add((own.possible == tuple(lots), len(own.sure) > 0, len(own.calm) > 1, own.sure_items == ()))
        self.assertGreater(len(seen), 6)

    def test_ties_without_room(self):
        web = Web("abc", (("ab", (0, 0)), ("ac", (0, 0)), ("bc", (0, 0))))
        self.assertEqual((most(web, "a", "c"), possible_cuts(web, "a", "c")), ((0, 0), ("a", "ab")))
        self.assertEqual((flow(web, "a", "c", ()), is_sure_cut(web, "a", "c", "ab")), ((0, 0, 0), True))

    def test_wrong_cuts(self):
        source = random.Random(244)
        for web in [yard(), *[any_web(source) for _ in range(10)]]:
            for place, other in list(itertools.permutations(web.places, 2))[:4]:
                cuts = own_cuts(web, place, other)
                wrong = [lot for lot in own_lots(web.places) if lot not in cuts] + ["", place + place, other, "z", "A"]
                wrong += [cut[::-1] for cut in cuts if len(cut) > 1]
                for cut in wrong:
                    for action in (is_possible_cut, is_sure_cut, cut_loss):
                        self.assert_given(InvalidCut, cut, action, web, place, other, cut)


class FlowTest(Case):
    def assert_flow(self, web, place, other, low):
        told = flow(web, place, other, low)
        self.assertEqual((told.__class__, {amount.__class__ for amount in told}), (tuple, {int}))
        self.assertEqual(len(told), len(web))
        rooms = {pair: stretch[pair not in low] for pair, stretch in web.ties}
        for (pair, _), amount in zip(web.ties, told):
            self.assertLessEqual(abs(amount), rooms[pair])
        great = net_out(web, told, place)
        self.assertEqual([net_out(web, told, letter) for letter in web.places if letter not in (place, other)],
                         [0] * (len(web.places) - 2))
        self.assertEqual(great, min(sum(rooms[pair] for pair in ties_out(web, cut)) for cut in own_cuts(web, place, other)))
        self.assertEqual(net_out(web, told, other), -great)
        return great

    def test_by_own_sums(self):
        source = random.Random(245)
        for web in [*[any_web(source, source.choice((1, 3, 1000))) for _ in range(120)], *greatest_webs()]:
            place, other = source.sample(web.places, 2)
            low = tuple(pair for pair, _ in web.ties if source.randint(0, 1))
            self.assert_flow(web, place, other, low)
            every = tuple(pair for pair, _ in web.ties)
            ends_told = self.assert_flow(web, place, other, every), self.assert_flow(web, place, other, ())
            self.assertEqual(ends_told, most(web, place, other))
            self.assertEqual(ends_told, most(web, other, place))

    def test_what_went_one_way_may_have_to_go_back(self):
        ties = (("ab", (1, 1)), ("ac", (1, 1)), ("bc", (1, 1)), ("be", (1, 1)), ("cd", (1, 1)), ("df", (1, 1)), ("ef", (1, 1)))
        web = Web("abcdef", ties)
        self.assertEqual(self.assert_flow(web, "a", "f", ()), 2)

    def test_errors_of_ends(self):
        web = yard()
        for low in [["ab"], "ab", {"ab": 1}, None, True, 5]:
            self.assert_given(InvalidTie, low, flow, web, "a", "d", low)
        for pair in ("ad", "ba", "", None, Plain(), ["ab"]):
            for low in ((pair,), ("ab", pair), ("bd", "ab", pair), ("ab", "ab", pair, None)):
                self.assert_given(InvalidTie, pair, flow, web, "a", "d", low)
        for low in (("ab", "ab"), ("bc", "ab")):
            self.assert_given(InvalidTie, low, flow, web, "a", "d", low)
            self.assert_given(UnknownPlace, "a", flow, web, "a", "a", low)


if __name__ == "__main__":
    unittest.main()
