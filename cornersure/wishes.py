"""Promises of a desk: which values are wishes, and whether they hold for things."""

from cornersure.errors import NotPossible, WrongName, WrongValue
from cornersure.flows import are_served, most
from cornersure.games import worths
from cornersure.kinds import is_integer, is_name, is_one_of, is_tuple_of
from cornersure.mixes import is_served, possible_mix, sure_mix, worst_price
from cornersure.pairings import is_possible_pairing, is_sure_pairing
from cornersure.ratios import is_below
from cornersure.seats import span
from cornersure.sums import never_below
from cornersure.systems import possible_answer, sure_answer
from cornersure.tables import is_within
from cornersure.things import kind_of
from cornersure.times import lead, schedule
from cornersure.trees import is_possible_tree, is_sure_tree
from cornersure.ways import is_possible_way, is_sure_way

_WITHIN = "within"
# For each word the kind of the things that it is said of, and the sorts of what stands behind the word.
_FORMS = {
    "safe": ("table", ("integer",)),
    "one": ("table", ("tuple",)),
    "each": ("table", ("tuple",)),
    "some": ("table", ("tuple",)),
    "cheap": ("table", ("tuple", "tuple", "integer")),
    "one answer": ("table", ("tuple",)),
    "some answer": ("table", ("tuple",)),
    "never below": ("table", ("name", "name")),
    "pairing": ("table", ("tuple",)),
    "sure pairing": ("table", ("tuple",)),
    "times": ("times", ()),
    "lead": ("times", ("letter", "letter", "integer")),
    "way": ("web", ("string",)),
    "sure way": ("web", ("string",)),
    "tree": ("web", ("tuple",)),
    "sure tree": ("web", ("tuple",)),
    "flow": ("web", ("letter", "letter", "integer")),
    "served": ("web", ("letter", "tuple")),
    "seats": ("counts", ("string", "integer", "name", "integer")),
}


def is_promise(value):
    """Whether any value is a pair of a name and a wish, or a triple of "within" and two names, names of any kind."""
    if is_tuple_of(value, 3):
        return is_one_of(value[0], [_WITHIN]) and _may_name(value[1]) and _may_name(value[2])
    return is_tuple_of(value, 2) and _may_name(value[0]) and _is_wish(value[1])


def names_of(promise):
    """The names of a promise, in their order."""
    return promise[1:] if len(promise) == 3 else promise[:1]


def holds_for(promise, things):
    """Whether a promise holds for these things, which have its names."""
    thing = things[names_of(promise)[0]]
    try:
        if len(promise) == 3:
            return is_within(thing, things[promise[2]])
        return _holds(promise[1], thing)
    except (WrongValue, WrongName, NotPossible):
        # What does not fit the thing does not hold.
        return False


def _may_name(value):
    return not isinstance(value, (list, dict))


def _is_wish(value):
    if not isinstance(value, tuple) or not value or not is_one_of(value[0], list(_FORMS)):
        return False
    sorts = _FORMS[value[0]][1]
    return len(value[1:]) == len(sorts) and all([_is_of(part, sort) for part, sort in zip(value[1:], sorts)])


def _is_of(value, sort):
    if sort == "integer":
        return is_integer(value)
    if sort == "tuple":
        return isinstance(value, tuple)
    if sort == "string":
        return isinstance(value, str)
    return is_name(value) and (sort == "name" or len(value) == 1)


def _holds(wish, thing):
    word, parts = wish[0], wish[1:]
    kind = _FORMS[word][0]
    if kind_of(thing) != kind:
        return False
    if kind == "table":
        return _holds_of_table(thing, word, parts)
    if kind == "times":
        return _holds_of_times(thing, parts)
    return _holds_of_web(thing, word, parts) if kind == "web" else _holds_of_counts(thing, parts)


def _holds_of_table(table, word, parts):
    if word == "safe":
        return not is_below(worths(table)[0], (parts[0], 1))
    if word == "one":
        return sure_mix(table, parts[0]) is not None
    if word == "each":
        return is_served(table, parts[0])
    if word == "some":
        return possible_mix(table, parts[0]) is not None
    if word == "cheap":
        return not is_below((parts[2], 1), worst_price(table, parts[0], parts[1]))
    if word == "one answer":
        return sure_answer(table, parts[0]) is not None
    if word == "some answer":
        return possible_answer(table, parts[0]) is not None
    if word == "never below":
        return never_below(table, parts[0], parts[1])
    if word == "pairing":
        return is_possible_pairing(table, parts[0])
    return is_sure_pairing(table, parts[0])


def _holds_of_times(times, parts):
    if parts == ():
        return schedule(times) is not None
    least = lead(times, parts[0], parts[1])[0]
    return least is not None and least >= parts[2]


def _holds_of_web(web, word, parts):
    if word == "way":
        return is_possible_way(web, parts[0])
    if word == "sure way":
        return is_sure_way(web, parts[0])
    if word == "tree":
        return is_possible_tree(web, parts[0])
    if word == "sure tree":
        return is_sure_tree(web, parts[0])
    if word == "flow":
        return most(web, parts[0], parts[1])[0] >= parts[2]
    return are_served(web, parts[0], parts[1])


def _holds_of_counts(counts, parts):
    word, seats, name, least = parts
    return span(counts, seats, word, name)[0] >= least
