"""The functions over tables: their arguments by position and by name, their errors and the order of these."""

import random
import time
import unittest

from cornersure import games, mixes, sums, systems
from cornersure.errors import (
    InvalidAnswer, InvalidBounds, InvalidColumn, InvalidMember, InvalidMix, InvalidPrices, InvalidSigns, InvalidTarget,
    InvalidWeights, NoAnswer, NotServed, UnknownName)
from cornersure.tables import Table, all_high, all_low
from tests.calls import (
    Call, CallsCase, no_tables, wrong_answers, wrong_members, wrong_mixes, wrong_names, wrong_prices, wrong_signs,
    wrong_stretch_tuples, wrong_weights)
from tests.drawn import any_fraction, any_member, any_mix, greatest_tables
from tests.samples import bar

RIGHT = {
    "name": "ash", "other": "elm", "weights": (1, -2), "mix": ((1, 1), (0, 1), (0, 1), (0, 1)),
    "columns_mix": ((1, 1), (0, 1)), "target": ((5, 5), (4, 6)), "prices": (3, 4, 2, 9), "signs": (1, -1),
    "bounds": ((1, 2), (3, 4), (5, 6), (7, 8)), "answer": ((1, 2), (-3, 4)), "column": "sour",
}
WRONG = {
    "table": no_tables(bar()), "name": (UnknownName, wrong_names("ash")), "other": (UnknownName, wrong_names("elm")),
    "weights": (InvalidWeights, wrong_weights(RIGHT["weights"])), "mix": (InvalidMix, wrong_mixes(RIGHT["mix"])),
    "columns_mix": (InvalidMix, [*wrong_mixes(RIGHT["columns_mix"]), RIGHT["mix"]]),
    "target": (InvalidTarget, wrong_stretch_tuples(RIGHT["target"], 10000)),
    "prices": (InvalidPrices, wrong_prices(RIGHT["prices"])), "signs": (InvalidSigns, wrong_signs(RIGHT["signs"])),
    "bounds": (InvalidBounds, wrong_stretch_tuples(RIGHT["bounds"], 10000)),
    "answer": (InvalidAnswer, wrong_answers(RIGHT["answer"])),
    "column": (InvalidColumn, [*wrong_names("sour"), "ash"]),
    "member": (InvalidMember, wrong_members(all_low(bar()))),
}
CALLS = (
    (sums.sum_ends, "table name weights"), (sums.foremost, "table weights"), (sums.surely_foremost, "table weights"),
    (sums.never_below, "table name other"), (sums.lead_ends, "table name other weights"),
    (games.worth, "table member"), (games.worths, "table"), (games.holds, "table mix"),
    (games.allows, "table columns_mix"), (games.safe_mix, "table"), (games.keeping_mix, "table"),
    (games.best_mixes, "table member"), (games.possible_saddles, "table"), (games.sure_saddles, "table"),
    (mixes.mix_ends, "table mix"), (mixes.is_sure_mix, "table target mix"), (mixes.is_possible_mix, "table target mix"),
    (mixes.price_of, "table prices mix"), (mixes.sure_mix, "table target"), (mixes.possible_mix, "table target"),
    (mixes.corner_mix, "table target signs"), (mixes.is_served, "table target"), (mixes.barring, "table target"),
    (mixes.worst_price, "table target prices"), (mixes.dearest_signs, "table target prices"),
    (mixes.best_price, "table target prices"), (mixes.sure_price, "table target prices"),
    (mixes.corner_game, "table target signs"), (mixes.sure_game, "table target"),
    (systems.row_ends, "table answer"), (systems.is_sure_answer, "table bounds answer"),
    (systems.is_possible_answer, "table bounds answer"), (systems.sure_answer, "table bounds"),
    (systems.possible_answer, "table bounds"), (systems.barring_member, "table bounds"),
    (systems.barring_weights, "table bounds"), (systems.sure_range, "table bounds column"),
    (systems.possible_range, "table bounds column"), (systems.sure_cost, "table bounds weights"),
    (systems.possible_cost, "table bounds weights"),
)


def right_for(names):
    made = {**RIGHT, "table": bar(), "member": all_low(bar())}
    return {name: made[name] for name in names.split()}


class CallsTest(CallsCase):
    def test_arguments_and_errors(self):
        self.assert_calls([Call(action, lambda names=names: right_for(names), {name: WRONG[name] for name in names.split()})
                           for action, names in CALLS])

    def test_what_is_told_last_comes_last(self):
        far = ((10000, 10000), (10000, 10000))
        for action in (mixes.worst_price, mixes.dearest_signs):
            error = self.error_of(NotServed, action, bar(), far, RIGHT["prices"])
            self.assertEqual(vars(error), {})
            self.assert_given(InvalidPrices, None, action, bar(), far, None)
        table = Table(("x", "y"), (("r", ((0, 0), (0, 0))),))
        for action, last, kind in ((systems.sure_range, "x", InvalidColumn), (systems.possible_range, "x", InvalidColumn),
                                   (systems.sure_cost, (1, 1), InvalidWeights),
                                   (systems.possible_cost, (1, 1), InvalidWeights)):
            error = self.error_of(NoAnswer, action, table, ((-1, -1),), last)
            self.assertEqual(vars(error), {})
            self.assert_given(kind, None, action, table, ((-1, -1),), None)
            self.assert_given(kind, "z", action, table, ((-1, -1),), "z")

    def error_of(self, kind, action, *args):
        with self.assertRaises(kind) as caught:
            action(*args)
        self.assertIs(caught.exception.__class__, kind)
        return caught.exception

    def test_members_of_other_tables(self):
        for value in (all_high(bar().without("fig")), all_low(bar().more(("gum", ((0, 0), (0, 0)))))):
            self.assert_given(InvalidMember, value, games.worth, bar(), value)
            self.assert_given(InvalidMember, value, games.best_mixes, bar(), value)


class GreatestTest(unittest.TestCase):
    def test_right_values_at_the_bounds_give_an_answer_soon(self):
        source = random.Random(91)
        for table in greatest_tables(source):
            for made in self.greatest_arguments(source, table):
                for action, names in CALLS:
                    with self.subTest(action=action.__name__):
                        begun = time.perf_counter()
                        try:
                            action(*[made[name] for name in names.split()])
                        except (NotServed, NoAnswer, mixes.TooGreat, mixes.TooMany):
                            pass
                        self.assertLess(time.perf_counter() - begun, 3)

    def greatest_arguments(self, source, table):
        for stretch in ((-10000, 10000), (-10000, -10000), (10000, 10000), (0, 1)):
            yield {
                "table": table, "name": "a", "other": "h", "column": "z", "target": (stretch,) * 4,
                "bounds": (stretch,) * 8, "weights": tuple(source.choice((-1000, 0, 1000)) for _ in range(4)),
                "mix": any_mix(source, 8), "columns_mix": any_mix(source, 4), "member": any_member(source, table),
                "prices": tuple(source.choice((0, 1000, 999)) for _ in range(8)),
                "signs": tuple(source.choice((-1, 1)) for _ in range(4)),
                "answer": tuple(any_fraction(source, (-10 ** 30, 10 ** 30)) for _ in range(4)),
            }


if __name__ == "__main__":
    unittest.main()
