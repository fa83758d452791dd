"""Tables and odd values that several tests use."""

import unittest

from cornersure.tables import Table


def crop():
    return Table(("dry", "wet"), (("rye", ((2, 4), (1, 3))), ("oat", ((0, 1), (3, 5))), ("pea", ((1, 1), (1, 2)))))


def bar():
    return Table.told("sweet sour\nash 0 2 0 2\nbay 8 9 0 3\nelm 0 1 8 9\nfig 7 9 7 9")


def table_of(many):
    """A table with so many rows in two columns."""
    return Table(("x", "y"), tuple((letter, ((0, 1), (2, 3))) for letter in "abcdefgh"[:many]))


class Plain:
    """An object of no kind that the package knows."""


class Agreeing:
    """An object that calls itself equal to everything, as a careless class may."""

    __hash__ = None

    def __eq__(self, other):
        return True

    def __len__(self):
        return 2


class Refusing:
    """An object that fails on whatever it is asked."""

    __hash__ = None

    def __eq__(self, other):
        raise RuntimeError("compared")

    def __len__(self):
        raise RuntimeError("measured")

    def __bool__(self):
        raise RuntimeError("tested")

    def __iter__(self):
        raise RuntimeError("iterated")

    def __lt__(self, other):
        raise RuntimeError("ordered")

    __gt__ = __le__ = __ge__ = __lt__


def odd_values():
    """Values of many kinds, none of them a name, a tuple with anything in it or a table."""
    return [
        None, True, False, 0, 1, -1, 10 ** 60, "", " ", "Dry", "dry wet", "dry\n", "ninelette", b"", b"dry",
        (), [], ["dry"], [1, 2], {}, {"dry": 1}, set(), {"dry"}, frozenset({1}), range(2), ..., Plain, Plain(),
        Agreeing(), Refusing(), len, iter(()),
    ]


def odd_numbers():
    """Values that stand for no integer."""
    return [None, True, False, "1", b"1", (), (1,), [1], {}, {1}, Plain(), Agreeing(), Refusing()]


class Case(unittest.TestCase):
    """Asks for an error by its very class and by the very value that it tells."""

    def told_by(self, error, attribute, action, *args, **named):
        with self.assertRaises(error) as caught:
            action(*args, **named)
        self.assertIs(caught.exception.__class__, error)
        return getattr(caught.exception, attribute)

    def assert_given(self, error, given, action, *args, **named):
        told = self.told_by(error, "given", action, *args, **named)
        self.assertIs(told, given)

    def assert_given_equal(self, error, given, action, *args, **named):
        told = self.told_by(error, "given", action, *args, **named)
        self.assertEqual((told.__class__, told), (given.__class__, given))

    def assert_index(self, error, index, action, *args, **named):
        told = self.told_by(error, "index", action, *args, **named)
        self.assertEqual((told.__class__, told), (index.__class__, index))
