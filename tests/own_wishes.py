"""Promises of desks as the functions of their fields tell them, and values that are wishes and that are none."""

from fractions import Fraction

from cornersure import errors
from cornersure.flows import are_served, most
from cornersure.games import worths
from cornersure.mixes import is_served, possible_mix, sure_mix, worst_price
from cornersure.pairings import is_possible_pairing, is_sure_pairing
from cornersure.seats import Counts, span
from cornersure.sums import never_below
from cornersure.systems import possible_answer, sure_answer
from cornersure.tables import Table, is_within
from cornersure.times import Times, lead, schedule
from cornersure.trees import is_possible_tree, is_sure_tree
from cornersure.ways import is_possible_way, is_sure_way
from cornersure.webs import Web
from tests.samples import Agreeing, Plain, Refusing


def at_least(number, least):
    return number is not None and Fraction(number) >= least


ASKED = {
    (Table, "safe"): lambda table, number: Fraction(*worths(table)[0]) >= number,
    (Table, "one"): lambda table, target: sure_mix(table, target) is not None,
    (Table, "each"): is_served,
    (Table, "some"): lambda table, target: possible_mix(table, target) is not None,
    (Table, "cheap"): lambda table, target, prices, number: Fraction(*worst_price(table, target, prices)) <= number,
    (Table, "one answer"): lambda table, bounds: sure_answer(table, bounds) is not None,
    (Table, "some answer"): lambda table, bounds: possible_answer(table, bounds) is not None,
    (Table, "never below"): never_below,
    (Table, "pairing"): is_possible_pairing,
    (Table, "sure pairing"): is_sure_pairing,
    (Times, "times"): lambda times: schedule(times) is not None,
    (Times, "lead"): lambda times, point, later, number: at_least(lead(times, point, later)[0], number),
    (Web, "way"): is_possible_way,
    (Web, "sure way"): is_sure_way,
    (Web, "tree"): is_possible_tree,
    (Web, "sure tree"): is_sure_tree,
    (Web, "flow"): lambda web, place, other, number: most(web, place, other)[0] >= number,
    (Web, "served"): are_served,
    (Counts, "seats"): lambda counts, word, seats, name, number: span(counts, seats, word, name)[0] >= number,
}


def own_holds(promise, things):
    """Whether a promise of the right form holds for things that have its names."""
    thing = things[promise[-2] if len(promise) == 2 else promise[1]]
    if len(promise) == 3:
        other = things[promise[2]]
        return thing.__class__ is Table and other.__class__ is Table and is_within(thing, other)
    word, *parts = promise[1]
    action = ASKED.get((thing.__class__, word))
    try:
        return action is not None and action(thing, *parts)
    except (errors.WrongValue, errors.WrongName, errors.NotPossible):
        return False


# For each kind wishes that hold for the thing of this kind (see there), others that do not, and at last such as do not
# fit the thing.
TABLE = "dry wet\nrye 2 4 1 3\noat 0 1 3 5\npea 1 1 1 1"
WISHES = {
    "table": (
        [("safe", 1), ("safe", -10 ** 60), ("one", ((1, 3), (1, 5))), ("each", ((1, 3), (1, 4))), ("some", ((2, 2), (3, 3))),
         ("cheap", ((1, 3), (1, 4)), (5, 2, 1), 1), ("one answer", ((10, 10), (10, 10), (10, 10))),
         ("some answer", ((-1, 5), (-2, 5), (-3, -1))), ("never below", "rye", "pea"), ("never below", "oat", "oat"),
         ("pairing", ("oat", "rye")), ("sure pairing", ("oat", "pea"))],
        [("safe", 2), ("safe", 10 ** 60), ("one", ((2, 2), (3, 3))), ("each", ((2, 2), (2, 2))), ("some", ((9, 9), (9, 9))),
         ("cheap", ((1, 3), (1, 4)), (5, 2, 1), 0), ("cheap", ((9, 9), (9, 9)), (5, 2, 1), 10 ** 9),
         ("never below", "pea", "rye"), ("pairing", ("rye", "oat")), ("sure pairing", ("oat", "rye"))],
        [("one", ()), ("one", ((1, 3),)), ("each", (None, None)), ("some", ([1, 3], (1, 5))), ("cheap", (), (), 0),
         ("cheap", ((1, 3), (1, 4)), (5, 2), 4), ("one answer", ()), ("some answer", ((1, 2),)), ("never below", "rye", "z"),
         ("pairing", ()), ("pairing", ("oat", "oat")), ("sure pairing", (Plain(), Plain())),
         ("one", ((3, 1), (1, 5))), ("cheap", ((1, 3), (1, 4)), (5, 2, 1001), 4)],
    ),
    "times": (
        [("times",), ("lead", "a", "c", 6), ("lead", "a", "c", -10 ** 60), ("lead", "b", "b", 0), ("lead", "d", "a", -12)],
        [("lead", "a", "c", 7), ("lead", "c", "a", 0), ("lead", "b", "b", 1), ("lead", "d", "a", -11)],
        [("lead", "a", "z", 0), ("lead", "z", "a", 0)],
    ),
    "web": (
        [("way", "abd"), ("sure way", "bc"), ("tree", ("ab", "bc", "bd")), ("flow", "a", "d", 3),
         ("flow", "d", "a", -1), ("served", "a", ((0, 0), (0, 1), (1, 1), (0, 1)))],
        [("way", "bac"), ("sure way", "acd"), ("tree", ("ab", "ac", "bd")), ("sure tree", ("ab", "bc", "bd")),
         ("flow", "a", "d", 4), ("served", "a", ((0, 0), (0, 1), (1, 1), (0, 2)))],
        [("way", ""), ("way", "ad"), ("way", "xy z"), ("sure way", "a"), ("tree", ()), ("tree", ("ab", "ab", "ab")),
         ("sure tree", (Plain(),)), ("flow", "a", "a", -5), ("flow", "a", "z", 0), ("served", "z", ()), ("served", "a", ()),
         ("served", "a", ((0, 1), (0, 0), (0, 0), (0, 0)))],
    ),
    "counts": (
        [("seats", "whole", 4, "p", 2), ("seats", "odd", 12, "q", -5), ("seats", "whole", 1, "p", 1)],
        [("seats", "whole", 4, "p", 3), ("seats", "odd", 1, "q", 1)],
        [("seats", "even", 4, "p", 0), ("seats", "whole", 0, "p", 0), ("seats", "whole", 13, "p", 0), ("seats", "", 4, "p", 0),
         ("seats", "whole", 4, "z", 0), ("seats", "whole", 10 ** 60, "p", 0)],
    ),
}


# Texts of other things, wishes for them, and whether these hold.
OTHERS = (
    ("table", "x\np 1 1\nq -1 -1", ("some answer", ((-1, -1), (-1, -1))), False),
    ("table", "x\np 1 1\nq -1 -1", ("some answer", ((-1, -1), (-1, 1))), True),
    ("table", "x\np 1 1\nq -1 -1", ("one answer", ((-1, -1), (-1, 1))), False),
    ("table", "x\np 1 1\nq -1 -1", ("one answer", ((-1, -1), (1, 1))), True),
    ("table", "x\np 0 1\nq 2 3", ("cheap", ((1, 2),), (4, 6), 5), True),
    ("table", "x\np 0 1\nq 2 3", ("cheap", ((1, 2),), (4, 6), 4), False),
    ("table", "x\np 0 1\nq 2 3", ("each", ((1, 2),)), True),
    ("table", "x\np 0 2\nq 1 3", ("one", ((1, 2),)), False),
    ("table", "x\np 0 2\nq 1 3", ("some", ((1, 2),)), True),
    ("table", "sweet sour\nash 0 2 0 2\nbay 8 9 0 3\nelm 0 1 8 9\nfig 7 9 7 9", ("each", ((5, 5), (5, 5))), True),
    ("table", "sweet sour\nash 0 2 0 2\nbay 8 9 0 3\nelm 0 1 8 9\nfig 7 9 7 9", ("one", ((5, 5), (5, 5))), False),
    ("table", "x y\np 1 1 1 1", ("pairing", ("p", "p")), False),
    ("times", "abc\na b 2 4\nb c 1 3\na c 8 9", ("times",), False),
    ("times", "abc\na b 2 4\nb c 1 3\na c 8 9", ("lead", "a", "b", -1000), False),
    ("times", "abc\na b 2 4", ("lead", "a", "c", -1000), False),
    ("times", "abc\na b 2 4", ("lead", "a", "b", 2), True),
    ("times", "abc\na b 2 4", ("lead", "b", "a", -4), True),
    ("times", "ab", ("times",), True),
    ("web", "abc\nab 1 2\nac 2 3\nbc 0 1", ("sure tree", ("ab", "bc")), True),
    ("web", "abc\nab 1 2\nac 2 3\nbc 0 1", ("sure tree", ("ab", "ac")), False),
    ("web", "abc\nab 1 2\nac 1 3\nbc 0 1", ("sure tree", ("ab", "bc")), False),
    ("web", "abc\nab 1 2\nac 1 3\nbc 0 1", ("tree", ("ac", "bc")), True),
    ("counts", "a 0 0\nb 0 0", ("seats", "odd", 3, "a", 0), True),
    ("counts", "a 0 0\nb 0 0", ("seats", "odd", 3, "a", 1), False),
    ("counts", "north 5 6\nsouth 1 2", ("seats", "whole", 2, "north", 2), True),
    ("counts", "north 5 6\nsouth 1 2", ("seats", "whole", 2, "south", 1), False),
)


def wrong_wishes():
    """What is no wish, whatever thing it is said of."""
    good = [("safe", 1), ("cheap", ((1, 3),), (5,), 4), ("never below", "rye", "pea"), ("lead", "a", "c", 6), ("way", "ab"),
            ("tree", ("ab",)), ("flow", "a", "b", 0), ("served", "a", ((0, 0),)), ("seats", "whole", 4, "p", 2), ("times",),
            ("one", ()), ("each", ()), ("some", ()), ("one answer", ()), ("some answer", ()), ("pairing", ()),
            ("sure pairing", ()), ("sure way", "ab"), ("sure tree", ())]
    integers = [True, False, None, "1", (1, 1), (1,), [1], Plain(), Agreeing(), Refusing(), b"1"]
    tuples = [None, [], [(1, 2)], {}, "", "ab", 1, Plain(), Agreeing(), Refusing()]
    names = [None, "", "Rye", "rye1", "ninelette", ("rye",), ["rye"], b"rye", 1, Plain(), Agreeing(), Refusing()]
    letters = [*names, "ab", "A", " ", "1"]
    strings = [None, 1, True, b"ab", ("a", "b"), ["ab"], {}, Plain(), Agreeing(), Refusing()]
    wrong = [value for wish in good for value in (wish[:-1], (*wish, 1), list(wish), (wish[0].upper(), *wish[1:]),
                                                  (wish[0] + " ", *wish[1:]), (wish,), (wish[0].encode(), *wish[1:]))]
    wrong += [(word, value) for word in ("one", "each", "some", "one answer", "some answer", "pairing", "sure pairing", "tree",
                                         "sure tree") for value in tuples]
    wrong += [("safe", value) for value in integers] + [("lead", "a", "c", value) for value in integers]
    wrong += [("flow", "a", "c", value) for value in integers] + [("cheap", (), (), value) for value in integers]
    wrong += [("seats", "whole", value, "p", 2) for value in integers] + [("seats", "odd", 2, "p", value) for value in integers]
    wrong += [wish for value in tuples for wish in (("cheap", value, (), 1), ("cheap", (), value, 1), ("served", "a", value))]
    wrong += [wish for value in names for wish in (("never below", value, "pea"), ("never below", "rye", value),
                                                   ("seats", "whole", 4, value, 2))]
    wrong += [wish for value in letters for wish in (("lead", value, "c", 6), ("lead", "a", value, 6), ("flow", value, "c", 6),
                                                     ("flow", "a", value, 6), ("served", value, ()))]
    wrong += [wish for value in strings for wish in (("way", value), ("sure way", value), ("seats", value, 4, "p", 2))]
    return wrong + [None, (), "safe", ("safe",), 5, [], {}, ("within", "crop"), (None, 1), (("safe",), 1), Plain(), Refusing(),
                    ("served",), (["safe"], 1), (Agreeing(), 1), (Refusing(), 1), ("safe 1",), (1, "safe"), ("way ab",), True]
