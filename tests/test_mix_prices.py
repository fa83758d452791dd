"""Prices of mixes, and the tables of their games."""

import random
import unittest

from cornersure.errors import InvalidColumns, NotServed, TooGreat, TooMany
from cornersure.games import worths
from cornersure.mixes import (
    best_price, corner_game, corner_mix, dearest_signs, is_served, price_of, sure_game, sure_mix, sure_price, worst_price)
from cornersure.tables import Table
from tests.drawn import as_number, as_pair, corners_of, greatest_tables, signs_of
from tests.oracles import dot
from tests.samples import Case, bar
from tests.test_mixes import corner_walls, corners_by, drawn_games, far_table, possible_walls, sure_walls, walls_for


def least_by(walls, prices):
    """The least price by all corners of the shares, a fraction; None without any."""
    found = [dot(prices, mix) for mix in corners_by(walls, len(prices))]
    return as_pair(min(found)) if found else None


def any_prices(source, many):
    return tuple(source.choice((0, 1, 2, 3, 1000, source.randint(0, 9))) for _ in range(many))


class PricesTest(Case):
    def test_beside_all_corners_of_the_shares(self):
        seen = set()
        for source, table, target in drawn_games(61, 25):
            prices = any_prices(source, len(table))
            best, sure = best_price(table, target, prices), sure_price(table, target, prices)
            self.assertEqual(best, least_by(possible_walls(table, target), prices))
            self.assertEqual(sure, least_by(sure_walls(table, target), prices))
            own = [least_by(corner_walls(table, target, signs), prices) for signs in signs_of(table)]
            if None in own:
                for action in (worst_price, dearest_signs):
                    with self.assertRaises(NotServed):
                        action(table, target, prices)
            else:
                worst = max(as_number(price) for price in own)
                self.assertEqual(as_number(worst_price(table, target, prices)), worst)
                first = signs_of(table)[[as_number(price) for price in own].index(worst)]
                self.assertEqual(dearest_signs(table, target, prices), first)
                self.assertLessEqual(as_number(best), worst)
                self.assertTrue(sure is None or as_number(sure) >= worst)
            seen.add((best is None, None in own, sure is None))
        self.assertEqual(seen, {(True, True, True), (False, True, True), (False, False, True), (False, False, False)})

    def test_the_worst_price_is_that_of_a_corner(self):
        tried = 0
        for source, table, target in drawn_games(62, 30):
            if len(table) * len(table.columns) <= 6 and is_served(table, target):
                prices = any_prices(source, len(table))
                own = [as_number(least_by(walls_for(corner, target), prices)) for corner in corners_of(table)]
                worst = as_number(worst_price(table, target, prices))
                self.assertEqual(worst, max(own))
                tried += 1
        self.assertGreater(tried, 10)

    def test_tables_of_all_sizes(self):
        source = random.Random(63)
        tables = [far_table(source) for _ in range(60)]
        for table in greatest_tables(source):
            tables += [(table, ((-10000, 10000),) * 4), (table, ((-7000, 8000),) * 4), (table, ((0, 1),) * 4)]
        for table, target in tables:
            prices = any_prices(source, len(table))
            sure, mix = sure_price(table, target, prices), sure_mix(table, target)
            self.assertEqual(sure is None, mix is None)
            if mix:
                self.assertLessEqual(as_number(sure), as_number(price_of(table, prices, mix)))
            if is_served(table, target):
                worst, signs = as_number(worst_price(table, target, prices)), dearest_signs(table, target, prices)
                self.assertLessEqual(worst, as_number(price_of(table, prices, corner_mix(table, target, signs))))
                self.assertLessEqual(as_number(best_price(table, target, prices)), worst)

    def test_prices_at_the_bounds(self):
        table = Table(("x",), (("r", ((0, 0),)), ("s", ((2, 2),))))
        self.assertEqual(worst_price(table, ((1, 1),), (1000, 1000)), (1000, 1))
        self.assertEqual(worst_price(table, ((1, 1),), (1000, 0)), (500, 1))
        self.assertEqual(sure_price(table, ((0, 1),), (1000, 0)), (500, 1))
        self.assertEqual(best_price(table, ((0, 2),), (0, 0)), (0, 1))

    def test_the_first_of_several_dearest_signs(self):
        table = Table(("x", "y"), (("r", ((0, 0), (0, 0))),))
        self.assertEqual(dearest_signs(table, ((0, 0), (0, 0)), (7,)), (-1, -1))
        steep = Table(("x",), (("r", ((0, 3),)), ("s", ((0, 0),))))
        self.assertEqual(dearest_signs(steep, ((0, 1),), (0, 6)), (1,))
        self.assertEqual(worst_price(steep, ((0, 1),), (0, 6)), (4, 1))


class CornerGameTest(Case):
    def test_payoffs_and_worths(self):
        seen = set()
        for source, table, target in drawn_games(64, 12):
            for signs in signs_of(table):
                game = corner_game(table, target, signs)
                self.assertEqual((game.columns, game.names), (table.columns, table.names))
                for name in table.names:
                    for at, (column, sign) in enumerate(zip(table.columns, signs)):
                        end, aim = table.stretch(name, column)[(sign + 1) // 2], target[at][(sign + 1) // 2]
                        self.assertEqual(game.stretch(name, column), (sign * (aim - end),) * 2)
                low, high = worths(game)
                self.assertEqual((low, low[0] >= 0), (high, corner_mix(table, target, signs) is not None))
                seen.add(low[0] >= 0)
        self.assertEqual(seen, {True, False})

    def test_text(self):
        game = corner_game(bar(), ((5, 6), (-7, 8)), (-1, 1))
        self.assertEqual(str(game), "sweet sour\nash -5 -5 6 6\nbay 3 3 5 5\nelm -5 -5 -1 -1\nfig 2 2 -1 -1")

    def test_the_first_payoff_that_is_too_great(self):
        table = Table(("x", "y"), (("r", ((0, 5), (-1, 1))), ("s", ((-9000, 9000), (-10000, -10000)))))
        given = self.given_by(table, ((0, 10000), (10000, 10000)), (-1, 1))
        self.assertEqual(given, 20000)
        self.assertEqual(self.given_by(table, ((-10000, -9999), (0, 0)), (1, 1)), -10004)
        self.assertEqual(self.given_by(table, ((-10000, -9995), (10000, 10000)), (1, 1)), -18995)
        self.assertEqual(self.given_by(table, ((2000, 2000), (10000, 10000)), (-1, -1)), -10001)
        self.assertEqual(self.given_by(table, ((2000, 2000), (0, 0)), (-1, -1)), -11000)

    def given_by(self, table, target, signs):
        return self.told_by(TooGreat, "given", corner_game, table, target, signs)

    def test_payoffs_at_the_bounds(self):
        table = Table(("x",), (("r", ((-5000, 5000),)),))
        self.assertEqual(str(corner_game(table, ((5000, 5000),), (-1,))), "x\nr -10000 -10000")
        self.assertEqual(str(corner_game(table, ((-5000, -5000),), (1,))), "x\nr -10000 -10000")
        self.assertEqual(self.given_by(table, ((5001, 5001),), (-1,)), -10001)
        self.assertEqual(self.given_by(table, ((-5001, -5001),), (1,)), -10001)


class SureGameTest(Case):
    def test_payoffs_and_worths(self):
        seen = set()
        for source, table, target in drawn_games(65, 25):
            if len(table.columns) > 2:
                continue
            game = sure_game(table, target)
            self.assertEqual(game.columns, (*table.columns, *["z" + column for column in table.columns]))
            self.assertEqual(game.names, table.names)
            for name in table.names:
                for column, (first, last) in zip(table.columns, target):
                    low, high = table.stretch(name, column)
                    self.assertEqual(game.stretch(name, column), (last - high,) * 2)
                    self.assertEqual(game.stretch(name, "z" + column), (low - first,) * 2)
            low, high = worths(game)
            self.assertEqual((low, low[0] >= 0), (high, sure_mix(table, target) is not None))
            seen.add(low[0] >= 0)
        self.assertEqual(seen, {True, False})

    def test_text(self):
        game = sure_game(bar(), ((5, 6), (-7, 8)))
        self.assertEqual(str(game), "sweet sour zsweet zsour\nash 4 4 6 6 -5 -5 7 7\nbay -3 -3 5 5 3 3 7 7\n"
                                    "elm 5 5 -1 -1 -5 -5 15 15\nfig -3 -3 -1 -1 2 2 14 14")

    def test_too_many_comes_ahead_of_names_and_these_ahead_of_too_great(self):
        far = ((-10000, -10000),)
        row = ((10000, 10000),)
        for names, many in ((("x", "zx", "abcdefgh"), 6), (("a", "b", "c", "d"), 8)):
            table = Table(names, (("r", row * len(names)),))
            self.assertEqual(self.told_by(TooMany, "given", sure_game, table, far * len(names)), many)
        for names in (("x", "zx"), ("zx", "x"), ("abcdefgh",), ("abcdefgh", "x"), ("x", "abcdefgh")):
            table = Table(names, (("r", row * len(names)),))
            self.assert_index(InvalidColumns, None, sure_game, table, far * len(names))
        table = Table(("abcdefg", "z"), (("r", row * 2),))
        self.assertEqual(self.told_by(TooGreat, "given", sure_game, table, far * 2), -20000)

    def test_names_that_will_do(self):
        for names in (("abcdefg",), ("z", "za"), ("z", "a"), ("zz", "zzzzzz")):
            table = Table(names, (("r", ((0, 0),) * len(names)),))
            self.assertEqual(sure_game(table, ((0, 0),) * len(names)).columns[len(names):],
                             tuple("z" + name for name in names))

    def test_the_first_payoff_that_is_too_great(self):
        table = Table(("x", "y"), (("r", ((0, 1), (-9, 9))), ("s", ((-9000, 9000), (0, 0)))))
        for target, given in ((((-2000, 9), (0, 0)), None), (((2000, 2000), (0, 0)), -11000),
                              (((-10000, -10000), (9999, 9999)), -10001), (((10000, 10000), (10000, 10000)), -10009),
                              (((-10000, 10000), (-10000, 10000)), None), (((-9, 9), (-10000, -9992)), -10001)):
            if given is None:
                self.assertEqual(len(sure_game(table, target)), 2)
            else:
                self.assertEqual(self.told_by(TooGreat, "given", sure_game, table, target), given)


if __name__ == "__main__":
    unittest.main()
