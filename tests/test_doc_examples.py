"""The examples of the document, to the letter."""

import unittest

from cornersure.tables import Table, all_high, all_low, corner, exact, is_member, is_within, turned


class TablesTest(unittest.TestCase):
    def setUp(self):
        self.crop = Table(("dry", "wet"), (("rye", ((2, 4), (1, 3))), ("oat", ((0, 1), (3, 5))), ("pea", ((1, 1), (1, 2)))))
        self.bar = Table.told("sweet sour\nash 0 2 0 2\nbay 8 9 0 3\nelm 0 1 8 9\nfig 7 9 7 9")

    def test_first(self):
        crop, bar = self.crop, self.bar
        self.assertEqual(
            [str(crop.without("pea")), crop.stretch("oat", "wet"), bar.names, len(bar), all_low(crop), corner(crop, (1, -1))[0]],
            ['dry wet\nrye 2 4 1 3\noat 0 1 3 5', (3, 5), ('ash', 'bay', 'elm', 'fig'), 4, (((2, 1), (1, 1)), ((0, 1), (3, 1)), ((1, 1), (1, 1))), ((4, 1), (1, 1))])

    def test_second(self):
        crop, bar = self.crop, self.bar
        self.assertEqual(
            [is_within(crop.changed("rye", "dry", (3, 4)), crop), is_within(crop, bar), str(exact(crop, all_high(crop)).without("rye")), str(turned(crop)), is_member(crop, ((3, 1), (2, 1)))],
            [True, False, 'dry wet\noat 1 1 5 5\npea 1 1 2 2', 'rye oat pea\ndry -4 -2 -1 0 -1 -1\nwet -3 -1 -5 -3 -2 -1', False])


if __name__ == "__main__":
    unittest.main()
