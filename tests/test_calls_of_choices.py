"""The functions over times, webs and pairings: arguments by position and by name, errors and the order of these."""

import random
import time
import unittest

from cornersure import pairings, times, ways, webs
from cornersure.errors import (
    InvalidMember, InvalidNumber, InvalidPairing, InvalidPoint, InvalidTie, InvalidWay, NotAWeb, NotTimes, NoTimes,
    TooMany, UnknownPlace)
from cornersure.tables import all_low
from cornersure.times import Times
from cornersure.webs import ends
from tests.calls import Call, CallsCase, no_tables, parts_replaced, unlike_tuples, wrong_fractions, wrong_members
from tests.drawn import any_fraction, any_member, greatest_tables
from tests.samples import bar, odd_numbers, odd_values
from tests.test_schedules import greatest_times
from tests.test_times import day
from tests.test_ways import greatest_webs
from tests.test_webs import TIES, yard

TIMES_CALLS = (
    (times.schedule, "times"), (times.ring, "times"), (times.lead, "times point later"),
    (times.chain, "times point later"), (times.schedule_with, "times point later number"),
    (times.least_strikes, "times"), (times.idle_facts, "times"), (times.as_system, "times"),
)
WEB_CALLS = (
    (webs.ends, "web low"), (ways.all_ways, "web place other"), (ways.way_cost, "web way member"),
    (ways.least_way_costs, "web place other"), (ways.is_possible_way, "web way"), (ways.is_sure_way, "web way"),
    (ways.way_loss, "web way"), (ways.possible_ways, "web place other"), (ways.calm_ways, "web place other"),
    (ways.possible_way_ties, "web place other"), (ways.sure_way_ties, "web place other"), (ways.heights, "web way"),
    (ways.better_way, "web way"),
)
TABLE_CALLS = (
    (pairings.all_pairings, "table"), (pairings.pairing_cost, "table pairing member"),
    (pairings.least_pairing_costs, "table"), (pairings.is_possible_pairing, "table pairing"),
    (pairings.is_sure_pairing, "table pairing"), (pairings.pairing_loss, "table pairing"),
    (pairings.possible_pairings, "table"), (pairings.calm_pairings, "table"), (pairings.possible_places, "table"),
    (pairings.sure_places, "table"), (pairings.pairing_prices, "table pairing"),
    (pairings.better_pairing, "table pairing"),
)
WEB_MEMBER = ends(yard(), ())
PAIRING = ("fig", "bay")


def wrong_letters_of(right):
    """What is no point or no place."""
    return [*odd_values(), "z", "e", "", "ab", "bc", right.upper(), right + " ", (right,), [right], right.encode()]


def wrong_numbers():
    return [*odd_numbers(), 100001, -100001, 10 ** 60, -10 ** 60, (3, 1)]


def wrong_lows():
    """What is no tuple; for an error that tells another value than the one that was passed there are other tests."""
    return [value for value in [*odd_values(), ["ab"], "ab", {"ab": 1}] if not isinstance(value, tuple)] + \
        [("ab", "ab"), ("bc", "ab")]


def wrong_ways():
    return [*odd_values(), "a", "ad", "abca", "aba", "abb", "abe", "adc", "bda", "ABD", "a b", "abd ", "abd\n",
            ("a", "b"), ["a", "b"], b"abd", ("abd",), "ab" * 2000, "abcde"]


def wrong_web_members():
    parts = [*wrong_fractions(), (0, 1), (7, 1), (1, 3), (61, 10)]
    return unlike_tuples(WEB_MEMBER) + parts_replaced(WEB_MEMBER, parts) + [TIES]


def wrong_pairings():
    wrong = parts_replaced(PAIRING, [*odd_values(), "Fig", "sweet", "f", ["fig"], ("fig",), b"bay", "fig bay"])
    return unlike_tuples(PAIRING) + wrong + [("fig", "fig"), ("bay", "bay"), "figbay"]


RIGHT = {
    "point": "b", "later": "d", "number": 3, "low": ("ab", "cd"), "place": "a", "other": "d", "way": "acbd",
    "pairing": PAIRING,
}
WRONG = {
    "times": (NotTimes, [*odd_values(), str(day()), yard(), bar(), [day()], (day(),), ("ab", ())]),
    "web": (NotAWeb, [*odd_values(), yard().text, day(), bar(), [yard()], (yard(),), ("abcd", TIES)]),
    "table": (no_tables(bar())[0], [*no_tables(bar())[1], yard(), day()]),
    "point": (InvalidPoint, wrong_letters_of("b")), "later": (InvalidPoint, wrong_letters_of("d")),
    "number": (InvalidNumber, wrong_numbers()), "low": (InvalidTie, wrong_lows()),
    "place": (UnknownPlace, wrong_letters_of("a")), "other": (UnknownPlace, [*wrong_letters_of("d"), "a"]),
    "way": (InvalidWay, wrong_ways()), "pairing": (InvalidPairing, wrong_pairings()),
}


def calls_of(table, things):
    """The calls of a table of calls, with these things and this wrong member."""
    calls = []
    for action, names in table:
        right = {**RIGHT, **things}
        wrong = {**WRONG, "member": (InvalidMember, wrong_web_members() if "web" in names else wrong_members(all_low(bar())))}
        calls.append(Call(action, lambda names=names, right=right: {name: right[name] for name in names.split()},
                          {name: wrong[name] for name in names.split()}))
    return calls


class CallsTest(CallsCase):
    def test_times(self):
        self.assert_calls(calls_of(TIMES_CALLS, {"times": day()}))

    def test_webs_and_ways(self):
        self.assert_calls(calls_of(WEB_CALLS, {"web": yard(), "member": WEB_MEMBER}))

    def test_pairings(self):
        self.assert_calls(calls_of(TABLE_CALLS, {"table": bar(), "member": all_low(bar())}))

    def test_the_same_point_and_the_same_place(self):
        self.assertEqual((times.lead(day(), "b", "b"), times.chain(day(), "b", "b")), ((0, 0), ()))
        for action, _ in WEB_CALLS:
            if "other" in action.__code__.co_varnames[:3]:
                self.assert_given(UnknownPlace, "c", action, yard(), "c", "c")
                self.assert_given(UnknownPlace, "z", action, yard(), "z", "z")

    def test_what_is_told_last_comes_last(self):
        late = Times("abcd", (("a", "b", (1, 1)), ("b", "a", (0, 0))))
        for action in (times.lead, times.chain):
            with self.assertRaises(NoTimes):
                action(late, "a", "b")
            self.assert_given(InvalidPoint, "z", action, late, "z", "y")
            self.assert_given(InvalidPoint, "y", action, late, "a", "y")
        with self.assertRaises(NoTimes):
            times.idle_facts(late)
        self.assert_given(InvalidNumber, None, times.schedule_with, late, "a", "b", None)
        self.assertIsNone(times.schedule_with(late, "a", "b", 1))

    def test_members_of_other_webs(self):
        for value in (WEB_MEMBER[:4], ends(yard().changed("ab", (4, 5)), ())):
            self.assert_given(InvalidMember, value, ways.way_cost, yard(), "abd", value)
        self.assertIs(webs.is_web_member(web=yard(), value=WEB_MEMBER), True)


class GreatestTest(unittest.TestCase):
    def assert_soon(self, action, *args):
        with self.subTest(action=action.__name__):
            begun = time.perf_counter()
            try:
                action(*args)
            except (NoTimes, TooMany):
                pass
            self.assertLess(time.perf_counter() - begun, 4)

    def test_times(self):
        for thing in greatest_times():
            made = {"times": thing, "point": "a", "later": "f"}
            for number in (-100000, 0, 100000):
                for action, names in TIMES_CALLS:
                    self.assert_soon(action, *[{**made, "number": number}[name] for name in names.split()])

    def test_webs(self):
        source = random.Random(151)
        for web in greatest_webs():
            member = tuple(any_fraction(source, stretch) for _, stretch in web.ties)
            place, other = source.sample(web.places, 2)
            way = source.choice(ways.all_ways(web, place, other))
            low = tuple(pair for pair, _ in web.ties if source.randint(0, 1))
            made = {"web": web, "member": member, "place": place, "other": other, "way": way, "low": low}
            for action, names in WEB_CALLS:
                self.assert_soon(action, *[made[name] for name in names.split()])

    def test_pairings(self):
        source = random.Random(152)
        for table in greatest_tables(source):
            pairing = tuple(source.sample(table.names, 4))
            made = {"table": table, "pairing": pairing, "member": any_member(source, table)}
            for action, names in TABLE_CALLS:
                self.assert_soon(action, *[made[name] for name in names.split()])


if __name__ == "__main__":
    unittest.main()
