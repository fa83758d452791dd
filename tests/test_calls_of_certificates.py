"""The functions of the last modules: arguments by position and by name, errors and the order of these."""

import random
import time
import unittest

from cornersure import certificates
from cornersure.checker import accepts
from cornersure.console import Console
from cornersure.desks import Desk, played
from cornersure.errors import NotServed, NoTimes
from cornersure.pairings import all_pairings
from cornersure.seats import Counts
from cornersure.times import Times
from cornersure.trees import all_trees
from cornersure.ways import all_ways
from tests import test_calls_of_choices, test_calls_of_lots, test_calls_of_tables
from tests.calls import Call, CallsCase
from tests.drawn import greatest_tables
from tests.samples import bar
from tests.test_flows import own_cuts
from tests.test_schedules import greatest_times
from tests.test_serving import drawn_wishes
from tests.test_times import day
from tests.test_ways import greatest_webs

CALLS = [(getattr(certificates, name), names) for name, names in (
    ("certify_safe", "table"), ("certify_unsafe", "table"), ("certify_hoped", "table"), ("certify_unhoped", "table"),
    ("certify_one", "table target"), ("certify_each", "table target"), ("certify_some", "table target"),
    ("certify_costs", "table target prices"), ("certify_asks", "table target prices"), ("certify_answer", "table bounds"),
    ("certify_some_answer", "table bounds"), ("certify_times", "times"), ("certify_lead", "times point later"),
    ("certify_reached", "times point later"), ("certify_way", "web way"), ("certify_sure_way", "web way"),
    ("certify_pairing", "table pairing"), ("certify_sure_pairing", "table pairing"), ("certify_tree", "web tree"),
    ("certify_sure_tree", "web tree"), ("certify_cut", "web place other cut"), ("certify_sure_cut", "web place other cut"),
    ("certify_served", "web place wishes"), ("certify_seating", "counts word seating"))]
RIGHT = {**test_calls_of_tables.RIGHT, **test_calls_of_choices.RIGHT, **test_calls_of_lots.RIGHT, "table": bar(), "times": day()}
WRONG = {**test_calls_of_tables.WRONG, **test_calls_of_choices.WRONG, **test_calls_of_lots.WRONG}


class CallsTest(CallsCase):
    def test_certificates(self):
        self.assert_calls([Call(action, lambda names=names: {name: RIGHT[name] for name in names.split()},
                                {name: WRONG[name] for name in names.split()}) for action, names in CALLS])

    def test_what_is_told_last_comes_last(self):
        late = Times("ab", (("a", "b", (1, 1)), ("b", "a", (0, 0))))
        for action in (certificates.certify_lead, certificates.certify_reached):
            with self.assertRaises(NoTimes) as caught:
                action(late, "a", "b")
            self.assertEqual(vars(caught.exception), {})
            self.assert_given(*WRONG["later"][:1], "z", action, late, "a", "z")
        for action in (certificates.certify_costs, certificates.certify_asks):
            with self.assertRaises(NotServed) as caught:
                action(bar(), ((10000, 10000),) * 2, RIGHT["prices"])
            self.assertEqual(vars(caught.exception), {})
            self.assert_given(*WRONG["prices"][:1], None, action, bar(), ((10000, 10000),) * 2, None)

    def test_the_checker_and_logs_by_name(self):
        claim, paper = certificates.certify_safe(bar())
        self.assertIs(accepts(paper=paper, claim=claim), True)
        self.assertEqual(accepts(claim, paper), accepts(claim=claim, paper=paper))
        self.assertEqual(played(log=()).log, ())


class GreatestTest(unittest.TestCase):
    def assert_soon(self, action, *args):
        with self.subTest(action=action.__name__):
            begun = time.perf_counter()
            try:
                told = action(*args)
            except (NotServed, NoTimes):
                told = None
            if action in [call for call, _ in CALLS]:
                self.assertTrue(told is None or accepts(*told))
            self.assertLess(time.perf_counter() - begun, 4)

    def assert_all_soon(self, made):
        for action, names in CALLS:
            if all(name in made for name in names.split()):
                self.assert_soon(action, *[made[name] for name in names.split()])

    def test_tables(self):
        source = random.Random(351)
        for table in greatest_tables(source):
            for stretch in ((-10000, 10000), (10000, 10000), (0, 1)):
                self.assert_all_soon({"table": table, "target": (stretch,) * 4, "bounds": (stretch,) * 8,
                                      "prices": tuple(source.choice((0, 1000, 999)) for _ in range(8)),
                                      "pairing": source.choice(all_pairings(table))})

    def test_times(self):
        for thing in greatest_times():
            self.assert_all_soon({"times": thing, "point": thing.points[0], "later": thing.points[-1]})

    def test_webs(self):
        source = random.Random(352)
        for web in greatest_webs():
            place, other = source.sample(web.places, 2)
            self.assert_all_soon({"web": web, "place": place, "other": other, "tree": source.choice(all_trees(web)),
                                  "way": source.choice(all_ways(web, place, other)),
                                  "cut": source.choice(own_cuts(web, place, other)),
                                  "wishes": drawn_wishes(source, web, place, 1000)})

    def test_counts(self):
        for stretch in ((0, 1000), (0, 0), (1000, 1000), (999, 1000)):
            counts = Counts(tuple((letter * 8, stretch) for letter in "abcde"))
            for word in ("whole", "odd"):
                self.assert_all_soon({"counts": counts, "word": word, "seating": (3, 0, 4, 5, 0)})

    def test_desks_and_consoles(self):
        source = random.Random(353)
        for table in greatest_tables(source):
            desk, aim = Desk(), ((-10000, 10000),) * 4
            self.assert_soon(desk.put, "table", table)
            for wish in (("safe", -10000), ("one", aim), ("each", aim), ("some", aim), ("cheap", aim, (1000,) * 8, 1000),
                         ("one answer", ((10000, 10000),) * 8), ("some answer", ((10000, 10000),) * 8),
                         ("pairing", ("a", "b", "c", "d")), ("sure pairing", ("e", "f", "g", "h"))):
                self.assert_soon(self.promised, desk, ("table", wish))
            self.assert_soon(desk.put, "table", table)
            self.assert_soon(played, desk.log)
            console = Console(table)
            for command in ("worths", "saddles", "rows", "foremost 1000 -1000 0 1", "sum a 1000 1000 1000 1000", "below a b"):
                self.assert_soon(console.say, command)

    def promised(self, desk, promise):
        try:
            desk.promise(promise)
        except ArithmeticError:
            pass


if __name__ == "__main__":
    unittest.main()
