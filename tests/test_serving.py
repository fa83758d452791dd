"""Wishes of places and whether flows serve them, beside all lots of places and all flows of small webs."""

import itertools
import random
import unittest

from cornersure.errors import InvalidWishes, NotAWeb, UnknownPlace
from cornersure.flows import are_served, can_be_served, tight_lot
from cornersure.webs import Web
from tests.calls import wrong_stretches
from tests.drawn import any_web, length
from tests.samples import Case, Plain, odd_values
from tests.test_flows import net_out, own_lots, ties_out
from tests.test_ways import greatest_webs
from tests.test_webs import yard

ACTIONS = (are_served, can_be_served, tight_lot)


def drawn_wishes(source, web, place, most):
    return tuple((0, 0) if letter == place else length(source, most) for letter in web.places)


def beyond(web, place, wishes, wish_end, room_end):
    """All lots without the source that wish for more than there is room for."""
    wished, rooms = dict(zip(web.places, wishes)), dict(web.ties)
    return [lot for lot in own_lots(web.places) if place not in lot and
            sum(wished[letter][wish_end] for letter in lot) > sum(rooms[pair][room_end] for pair in ties_out(web, lot))]


def drawn_wished(seed, many):
    source = random.Random(seed)
    for at in range(many):
        most = (2, 6, 1000)[at % 3]
        web = any_web(source, most)
        place = source.choice(web.places)
        yield web, place, drawn_wishes(source, web, place, source.choice((1, most // 2, most)))


class ServedTest(Case):
    def test_beside_all_lots(self):
        seen = set()
        for web, place, wishes in drawn_wished(251, 400):
            tight = beyond(web, place, wishes, 1, 0)
            self.assertIs(are_served(web, place, wishes), tight == [])
            self.assertIs(can_be_served(web, place, wishes), beyond(web, place, wishes, 0, 1) == [])
            told = tight_lot(web, place, wishes)
            self.assertTrue(told in tight if tight else told is None, told)
            seen.add((are_served(web, place, wishes), can_be_served(web, place, wishes)))
        self.assertEqual(len(seen), 3)

    def test_beside_all_flows_of_small_webs(self):
        """Rooms and wishes that are integers have a flow of integers, if any: so all of these are gone through."""
        source, seen = random.Random(252), set()
        for _ in range(150):
            web = any_web(source, 2, source.randint(2, 4), source.randint(1, 4))
            place = source.choice(web.places)
            wishes = drawn_wishes(source, web, place, 2)
            self.assertIs(are_served(web, place, wishes), self.is_member_served(web, place, wishes, 1, 0))
            self.assertIs(can_be_served(web, place, wishes), self.is_member_served(web, place, wishes, 0, 1))
            seen.add((are_served(web, place, wishes), can_be_served(web, place, wishes)))
        self.assertEqual(len(seen), 3)

    def is_member_served(self, web, place, wishes, wish_end, room_end):
        ranges = [range(-stretch[room_end], stretch[room_end] + 1) for _, stretch in web.ties]
        return any(all(letter == place or net_out(web, amounts, letter) == -wish[wish_end]
                       for letter, wish in zip(web.places, wishes)) for amounts in itertools.product(*ranges))

    def test_wishes_for_nothing(self):
        for web in greatest_webs():
            for place in web.places:
                none = ((0, 0),) * len(web.places)
                told = (are_served(web, place, none), can_be_served(web, place, none), tight_lot(web, place, none))
                self.assertEqual(told, (True, True, None))

    def test_just_enough_and_one_more(self):
        web = Web("abc", (("ab", (3, 5)), ("bc", (1, 4))))
        for wishes, sure, possible in ((((0, 0), (2, 2), (1, 1)), True, True), (((0, 0), (2, 3), (1, 1)), False, True),
                                       (((0, 0), (2, 2), (1, 2)), False, True), (((0, 0), (1, 9), (4, 9)), False, True),
                                       (((0, 0), (2, 2), (4, 4)), False, False), (((0, 0), (0, 0), (5, 5)), False, False)):
            self.assertEqual((are_served(web, "a", wishes), can_be_served(web, "a", wishes)), (sure, possible))
        self.assertEqual(tight_lot(web, "a", ((0, 0), (2, 3), (1, 1))), "bc")
        self.assertEqual(tight_lot(web, "c", ((1, 1), (0, 1), (0, 0))), "ab")

    def test_ties_without_room(self):
        web = Web("ab", (("ab", (0, 0)),))
        self.assertEqual(tight_lot(web, "b", ((0, 1), (0, 0))), "a")
        self.assertEqual((are_served(web, "b", ((0, 1), (0, 0))), can_be_served(web, "b", ((0, 1), (0, 0)))), (False, True))


class WrongWishesTest(Case):
    WISHES = ((0, 0), (0, 1), (1, 1), (0, 1000))

    def test_what_is_no_tuple_or_has_another_length(self):
        wrong = [*odd_values(), list(self.WISHES), self.WISHES[:3], (*self.WISHES, (0, 0)), (None,) * 5, (None,) * 3,
                 dict(enumerate(self.WISHES)), "abcd"[:3], (self.WISHES,)]
        for value in wrong:
            for action in ACTIONS:
                self.assert_index(InvalidWishes, None, action, yard(), "a", value)

    def test_the_first_that_is_no_wish(self):
        for value in wrong_stretches(1000, 0):
            for action in ACTIONS:
                for at in range(4):
                    wishes = (*self.WISHES[:at], value, *self.WISHES[at + 1:])
                    self.assert_index(InvalidWishes, at, action, yard(), "a", wishes)
                self.assert_index(InvalidWishes, 1, action, yard(), "a", (self.WISHES[0], value, Plain(), value))

    def test_wishes_of_the_source(self):
        for at, place in enumerate("abcd"):
            for wish in ((0, 1), (1, 1), (0, 1000)):
                wishes = tuple(wish if index == at else (0, 0) for index in range(4))
                for action in ACTIONS:
                    self.assert_index(InvalidWishes, at, action, yard(), place, wishes)
                    self.assertIsNot(action(yard(), "abcd"[at - 1], wishes), wishes)

    def test_the_order(self):
        for action in ACTIONS:
            self.assert_given(NotAWeb, None, action, None, "z", None)
            self.assert_given(UnknownPlace, "z", action, yard(), "z", None)
            self.assert_index(InvalidWishes, 0, action, yard(), "a", ((0, 1), None, (1, 1), (0, 0)))
            self.assertEqual(action(wishes=self.WISHES, place="a", web=yard()), action(yard(), "a", self.WISHES))


if __name__ == "__main__":
    unittest.main()
