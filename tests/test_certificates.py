"""Certificates: each tells what is so, and its paper is accepted for this claim, for the opposite one it is not."""

import random
import unittest

from cornersure import certificates, games, mixes, pairings, seats, systems, tables, times, trees, ways
from cornersure.certificates import certify_asks, certify_costs, certify_lead, certify_reached
from cornersure.checker import accepts
from cornersure.errors import InvalidPairing, NotServed, NoTimes
from cornersure.flows import are_served, flow, is_possible_cut, is_sure_cut, tight_lot
from cornersure.tables import Table
from cornersure.times import Times
from tests.claims import OPPOSITES, drawn_calls
from tests.own_checker import WORDS, own_accepts
from tests.samples import Case

# Whether what a function certifies is so by the functions of its field: the word for yes, and how it is asked.
ASKED = {
    "certify_one": ("one", lambda *args: mixes.sure_mix(*args) is not None),
    "certify_each": ("each", mixes.is_served),
    "certify_some": ("some", lambda *args: mixes.possible_mix(*args) is not None),
    "certify_answer": ("one answer", lambda *args: systems.sure_answer(*args) is not None),
    "certify_some_answer": ("some answer", lambda *args: systems.possible_answer(*args) is not None),
    "certify_times": ("times", lambda *args: times.schedule(*args) is not None),
    "certify_way": ("possible way", ways.is_possible_way),
    "certify_sure_way": ("sure way", ways.is_sure_way),
    "certify_pairing": ("possible pairing", pairings.is_possible_pairing),
    "certify_sure_pairing": ("sure pairing", pairings.is_sure_pairing),
    "certify_tree": ("possible tree", trees.is_possible_tree),
    "certify_sure_tree": ("sure tree", trees.is_sure_tree),
    "certify_cut": ("possible cut", is_possible_cut),
    "certify_sure_cut": ("sure cut", is_sure_cut),
    "certify_served": ("served", are_served),
    "certify_seating": ("can come", seats.can_come),
}
# Claims with one word alone, and the number that stands at their end.
NUMBERS = {
    "certify_safe": ("safe", lambda table: games.worths(table)[0]),
    "certify_unsafe": ("unsafe", lambda table: games.worths(table)[0]),
    "certify_hoped": ("hoped", lambda table: games.worths(table)[1]),
    "certify_unhoped": ("unhoped", lambda table: games.worths(table)[1]),
    "certify_costs": ("costs", mixes.worst_price),
    "certify_asks": ("asks", mixes.worst_price),
    "certify_lead": ("lead", lambda *args: times.lead(*args)[0]),
    "certify_reached": ("reached", lambda *args: times.lead(*args)[0]),
}


def told_by(action, args):
    """What a function gives; None where there is nothing to certify."""
    try:
        return action(*args)
    except (NotServed, NoTimes):
        return None


def own_claim(action, args):
    thing, *others = args
    name = action.__name__
    if name in NUMBERS:
        word, number = NUMBERS[name]
        return (word, str(thing), *others, number(*args))
    word, is_so = ASKED[name]
    return (word if is_so(*args) else OPPOSITES[word], str(thing), *others)


class ClaimsTest(Case):
    def test_what_is_so_with_a_paper_for_it(self):
        names = [name for name in dir(certificates) if name.startswith("certify_")]
        self.assertEqual(set(names), set(ASKED) | set(NUMBERS))
        seen = set()
        for action, args in drawn_calls(random.Random(311), 120):
            told = told_by(action, args)
            if told is not None:
                claim, paper = told
                self.assertEqual((told.__class__, claim.__class__), (tuple, tuple))
                self.assertEqual(claim, own_claim(action, args))
                self.assertIs(accepts(claim, paper), True)
                self.assertIs(own_accepts(claim, paper), True)
                seen.add(claim[0])
        self.assertEqual(seen, set(WORDS))

    def test_the_opposite_takes_none_of_it(self):
        for action, args in drawn_calls(random.Random(312), 60):
            told = told_by(action, args)
            if told is not None and told[0][0] in OPPOSITES:
                claim, paper = told
                self.assertIs(accepts((OPPOSITES[claim[0]], *claim[1:]), paper), False)

    def test_numbers_beyond_are_not_shown(self):
        """Just beyond the number that is certified the same paper shows nothing."""
        for action, args in drawn_calls(random.Random(313), 40):
            told = told_by(action, args)
            if told is not None and action.__name__ in NUMBERS:
                (*claim, number), paper = told
                sign = -1 if claim[0] in ("unsafe", "unhoped", "costs") else 1
                if claim[0] in ("lead", "reached"):
                    beyond = number + 1
                else:
                    # By a great bottom that is a multiple of the other one plus the least part.
                    great = 10 ** 9
                    beyond = (number[0] * great + sign, number[1] * great)
                self.assertIs(accepts((*claim, beyond), paper), False)
                self.assertIs(accepts((*claim, number), paper), True)

    def test_nothing_to_certify(self):
        source, seen = random.Random(314), set()
        for action, args in drawn_calls(source, 60):
            if action in (certify_costs, certify_asks):
                if not mixes.is_served(*args[:2]):
                    seen.add(action)
                    with self.assertRaises(NotServed):
                        action(*args)
            if action in (certify_lead, certify_reached):
                if times.schedule(args[0]) is None:
                    seen.add(action)
                    with self.assertRaises(NoTimes):
                        action(*args)
                elif times.lead(*args)[0] is None:
                    seen.add((action, None))
                    self.assertIsNone(action(*args))
        self.assertEqual(len(seen), 6)
        free = Times("abc", (("a", "b", (1, 2)),))
        self.assertEqual((certify_lead(free, "a", "c"), certify_reached(free, "c", "a")), (None, None))
        self.assertEqual(certify_lead(free, "a", "b"), (("lead", "abc\na b 1 2", "a", "b", 1), ((0, -1),)))
        self.assertEqual(certify_reached(free, "c", "c")[0], ("reached", "abc\na b 1 2", "c", "c", 0))

    def test_narrow_tables_have_no_pairings(self):
        table = Table(("x", "y"), (("p", ((0, 1), (2, 3))),))
        for action in (certificates.certify_pairing, certificates.certify_sure_pairing):
            for pairing in (("p",), ("p", "p"), ()):
                self.assert_given(InvalidPairing, pairing, action, table, pairing)


class PapersOfThePackageTest(Case):
    """What the functions of the fields return is a paper, too."""

    def assert_accepted(self, claim, paper):
        self.assertIs(accepts(claim, paper), True, (claim, paper))

    def test_of_tables(self):
        for action, args in drawn_calls(random.Random(315), 30):
            if action is certificates.certify_each:
                table, target = args
                text = str(table)
                self.assert_accepted(("safe", text, games.worths(table)[0]), games.safe_mix(table))
                self.assert_accepted(("unhoped", text, games.worths(table)[1]), games.keeping_mix(table))
                low, high = games.best_mixes(table, tables.all_low(table)), games.best_mixes(table, tables.all_high(table))
                self.assert_accepted(("safe", text, games.worths(table)[0]), low[0])
                self.assert_accepted(("unsafe", text, games.worths(table)[0]), low[1])
                self.assert_accepted(("hoped", text, games.worths(table)[1]), high[0])
                self.assert_accepted(("unhoped", text, games.worths(table)[1]), high[1])
                barring = mixes.barring(table, target)
                if barring is not None:
                    self.assert_accepted(("barred", text, target), barring)
                for word, mix in (("one", mixes.sure_mix(table, target)), ("some", mixes.possible_mix(table, target))):
                    self.assertTrue(mix is None or accepts((word, text, target), mix))
            elif action is certificates.certify_answer:
                table, bounds = args
                for word, other, answer, barring in (
                        ("one answer", "barred answer", systems.sure_answer(*args), systems.barring_member(*args)),
                        ("some answer", "no answer", systems.possible_answer(*args), systems.barring_weights(*args))):
                    self.assert_accepted((other if answer is None else word, str(table), bounds),
                                         barring if answer is None else answer)

    def test_of_times(self):
        for action, args in drawn_calls(random.Random(316), 60):
            if action is certify_lead:
                thing, point, later = args
                ring = times.ring(thing)
                if ring is not None:
                    self.assert_accepted(("ring", str(thing)), ring)
                    continue
                self.assert_accepted(("times", str(thing)), times.schedule(thing))
                chain, (least, most) = times.chain(thing, later, point), times.lead(*args)
                if least is not None:
                    self.assert_accepted(("lead", str(thing), point, later, least), chain)
                    self.assertIs(accepts(("lead", str(thing), point, later, least + 1), chain), False)
                for number in (least, most):
                    if number is not None:
                        self.assert_accepted(("reached", str(thing), point, later, number),
                                             times.schedule_with(*args, number))

    def test_of_lots(self):
        for action, args in drawn_calls(random.Random(317), 60):
            text = str(args[0])
            if action is certificates.certify_way:
                self.assert_one(("possible way", text, args[1]), ways.heights(*args))
                self.assert_one(("unsure way", text, args[1]), ways.better_way(*args))
            elif action is certificates.certify_pairing:
                self.assert_one(("possible pairing", text, args[1]), pairings.pairing_prices(*args))
                self.assert_one(("unsure pairing", text, args[1]), pairings.better_pairing(*args))
            elif action is certificates.certify_tree:
                self.assert_one(("no tree", text, args[1]), trees.exchange(*args))
            elif action is certificates.certify_cut:
                web, place, other, cut = args
                low = tuple(pair for pair, _ in web.ties if (pair[0] in cut) != (pair[1] in cut))
                self.assertIs(accepts(("possible cut", text, place, other, cut), flow(web, place, other, low)),
                              is_possible_cut(*args))
                high = tuple(pair for pair, _ in web.ties if pair not in low)
                self.assertIs(accepts(("sure cut", text, place, other, cut), flow(web, place, other, high)),
                              is_sure_cut(*args))
            elif action is certificates.certify_served:
                self.assert_one(("not served", text, *args[1:]), tight_lot(*args))
            elif action is certificates.certify_seating:
                self.assert_one(("can come", text, *args[1:]), seats.price(*args))
                self.assert_one(("cannot come", text, *args[1:]), seats.barring_names(*args))

    def assert_one(self, claim, paper):
        if paper is not None:
            self.assert_accepted(claim, paper)


if __name__ == "__main__":
    unittest.main()
