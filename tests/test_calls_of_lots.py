"""The functions over trees, flows and seats: arguments by position and by name, errors and the order of these."""

import random
import time
import unittest

from cornersure import flows, seats, trees
from cornersure.errors import (
    InvalidCut, InvalidMember, InvalidNumber, InvalidSeating, InvalidTie, InvalidTree, InvalidWishes, InvalidWord,
    NotAWeb, NotCounts, UnknownName, UnknownPlace)
from cornersure.seats import Counts
from cornersure.webs import ends
from tests.calls import Call, CallsCase, parts_replaced, unlike_tuples, wrong_names
from tests.drawn import any_counts, any_fraction
from tests.samples import bar, odd_numbers, odd_values
from tests.test_calls_of_choices import wrong_letters_of, wrong_lows, wrong_web_members
from tests.test_counts import PARTS, poll
from tests.test_flows import own_cuts
from tests.test_serving import drawn_wishes
from tests.test_times import day
from tests.test_ways import greatest_webs
from tests.test_webs import TIES, yard

TREE_CALLS = (
    (trees.all_trees, "web"), (trees.tree_cost, "web tree member"), (trees.least_tree_costs, "web"),
    (trees.is_possible_tree, "web tree"), (trees.is_sure_tree, "web tree"), (trees.tree_loss, "web tree"),
    (trees.possible_trees, "web"), (trees.calm_trees, "web"), (trees.possible_tree_ties, "web"),
    (trees.sure_tree_ties, "web"), (trees.exchange, "web tree"),
)
FLOW_CALLS = (
    (flows.all_cuts, "web place other"), (flows.cut_room, "web cut member"), (flows.most, "web place other"),
    (flows.flow, "web place other low"), (flows.is_possible_cut, "web place other cut"),
    (flows.is_sure_cut, "web place other cut"), (flows.cut_loss, "web place other cut"),
    (flows.possible_cuts, "web place other"), (flows.calm_cuts, "web place other"),
    (flows.possible_cut_ties, "web place other"), (flows.sure_cut_ties, "web place other"),
    (flows.are_served, "web place wishes"), (flows.can_be_served, "web place wishes"),
    (flows.tight_lot, "web place wishes"),
)
SEAT_CALLS = (
    (seats.seatings, "counts seats word"), (seats.can_come, "counts word seating"),
    (seats.surely_comes, "counts word seating"), (seats.price, "counts word seating"),
    (seats.barring_names, "counts word seating"), (seats.span, "counts seats word name"),
    (seats.sure_seats, "counts seats word"),
)
TREE = ("ab", "bd", "cd")
WISHES = ((0, 0), (0, 1), (1, 1), (0, 2))


def wrong_trees():
    wrong = parts_replaced(TREE, [*odd_values(), "ad", "ba", "", "a", "abd", ["ab"], ("ab",), b"ab"])
    return unlike_tuples(TREE) + wrong + [("ab", "ab", "cd"), ("ab", "cd", "bd"), ("ab", "ac", "bc"), ("ab", "bd"), "abbdcd"]


def wrong_cuts():
    """What is neither a cut from a to d nor a lot of places of which the room could be asked."""
    return [*odd_values(), "ba", "aa", "e", "abe", "A", "abcd", "a b", "ab ", ("a", "b"), ["a", "b"], ("ab",), b"ab", {"a": 1}]


def wrong_seatings(good):
    wrong = parts_replaced(good, [*odd_numbers(), -1, 13, 10 ** 60, (1, 1)])
    return unlike_tuples(good) + wrong + [(0, 0, 0), (5, 5, 3), (13, 0, 0)]


def index_of_wishes(value):
    if value.__class__ is not tuple or len(value) != 4:
        return None
    return next(at for at, wish in enumerate(value) if wish is not WISHES[at])


RIGHT = {
    "web": yard(), "place": "a", "other": "d", "low": ("ab", "cd"), "member": ends(yard(), ()), "tree": TREE, "cut": "abc",
    "wishes": WISHES, "counts": poll(), "seats": 4, "word": "odd", "seating": (2, 1, 1), "name": "q",
}
WRONG = {
    "web": (NotAWeb, [*odd_values(), yard().text, day(), bar(), poll(), [yard()], (yard(),), ("abcd", TIES)]),
    "counts": (NotCounts, [*odd_values(), poll().text, day(), bar(), yard(), [poll()], (poll(),), PARTS]),
    "place": (UnknownPlace, wrong_letters_of("a")), "other": (UnknownPlace, [*wrong_letters_of("d"), "a"]),
    "low": (InvalidTie, wrong_lows()), "member": (InvalidMember, wrong_web_members()), "tree": (InvalidTree, wrong_trees()),
    "cut": (InvalidCut, wrong_cuts()),
    "wishes": (InvalidWishes, [*unlike_tuples(WISHES), *[(*WISHES[:2], value, None) for value in odd_values()]],
               index_of_wishes),
    "seats": (InvalidNumber, [*odd_numbers(), 0, -1, 13, 10 ** 60, (4,), "four"]),
    "word": (InvalidWord, [*odd_values(), "Whole", "ODD", "odd ", "whol", "even", "wholeodd", ("odd",), ["odd"], b"odd", 2]),
    "seating": (InvalidSeating, wrong_seatings((2, 1, 1))), "name": (UnknownName, wrong_names("q")),
}


def calls_of(table):
    return [Call(action, lambda names=names: {name: RIGHT[name] for name in names.split()},
                 {name: WRONG[name] for name in names.split()}) for action, names in table]


class CallsTest(CallsCase):
    def test_trees(self):
        self.assert_calls(calls_of(TREE_CALLS))

    def test_flows(self):
        self.assert_calls(calls_of(FLOW_CALLS))

    def test_seats(self):
        self.assert_calls(calls_of(SEAT_CALLS))

    def test_the_same_place_twice(self):
        for action, names in FLOW_CALLS:
            if "other" in names:
                right = {name: RIGHT[name] for name in names.split()}
                for place in "abcd":
                    self.assert_given(UnknownPlace, place, action, **{**right, "place": place, "other": place})
                self.assert_given(UnknownPlace, "z", action, **{**right, "place": "z", "other": "z"})

    def test_members_of_other_webs(self):
        for value in (RIGHT["member"][:4], ends(yard().changed("ab", (4, 5)), ())):
            self.assert_given(InvalidMember, value, trees.tree_cost, yard(), TREE, value)
            self.assert_given(InvalidMember, value, flows.cut_room, yard(), "ab", value)


class GreatestTest(unittest.TestCase):
    def assert_soon(self, action, *args):
        with self.subTest(action=action.__name__):
            begun = time.perf_counter()
            action(*args)
            self.assertLess(time.perf_counter() - begun, 4)

    def test_webs(self):
        source = random.Random(291)
        for web in greatest_webs():
            place, other = source.sample(web.places, 2)
            low = tuple(pair for pair, _ in web.ties if source.randint(0, 1))
            made = {
                "web": web, "place": place, "other": other, "low": low,
                "member": tuple(any_fraction(source, stretch) for _, stretch in web.ties),
                "tree": source.choice(trees.all_trees(web)), "cut": source.choice(own_cuts(web, place, other)),
                "wishes": drawn_wishes(source, web, place, 1000),
            }
            for action, names in TREE_CALLS + FLOW_CALLS:
                self.assert_soon(action, *[made[name] for name in names.split()])

    def test_counts(self):
        source = random.Random(292)
        every = [Counts(tuple((letter * 8, stretch) for letter in "abcde"))
                 for stretch in ((0, 1000), (0, 0), (1000, 1000), (999, 1000))]
        for counts in [*every, *[any_counts(source, 1000, 5) for _ in range(3)]]:
            for word in ("whole", "odd"):
                made = {"counts": counts, "seats": 12, "word": word, "seating": (3, 0, 4, 5, 0), "name": counts.names[2]}
                for action, names in SEAT_CALLS:
                    self.assert_soon(action, *[made[name] for name in names.split()])


if __name__ == "__main__":
    unittest.main()
