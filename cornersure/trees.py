"""Trees of a web, by which one comes everywhere: their costs, and which are best in some, in all members."""

from itertools import combinations

from cornersure.choices import OWN, Choice, corner_of
from cornersure.errors import InvalidTree
from cornersure.kinds import ascends, is_one_of, is_tuple_of
from cornersure.webs import check_web, check_web_member, number_of, pairs_of, places_reached


def check_tree(web, tree):
    """Raise InvalidTree for what is no tree of the web."""
    if not _is_tree(web, tree):
        raise InvalidTree(tree)


def all_trees(web):
    """All trees, ascending."""
    check_web(web)
    return tuple(_trees_of(web))


def tree_cost(web, tree, member):
    """The cost of a tree in a member, a fraction."""
    check_web(web)
    check_tree(web, tree)
    check_web_member(web, member)
    return number_of(web, tree, member)


def least_tree_costs(web):
    """The pair of the least costs at all-LOW and at all-HIGH."""
    return _choice_of(web).least_costs()


def is_possible_tree(web, tree):
    """Whether the tree is best in some member."""
    return _choice_around(web, tree).is_possible(tree)


def is_sure_tree(web, tree):
    """Whether the tree is best in all members."""
    return _choice_around(web, tree).is_sure(tree)


def tree_loss(web, tree):
    """The worst loss of the tree."""
    return _choice_around(web, tree).worst_loss(tree)


def possible_trees(web):
    """All possible trees, ascending."""
    return _choice_of(web).possible_lots()


def calm_trees(web):
    """All calm trees, ascending."""
    return _choice_of(web).calm_lots()


def possible_tree_ties(web):
    """The PAIRs of the ties that some possible tree has, ascending."""
    return _choice_of(web).possible_items()


def sure_tree_ties(web):
    """The PAIRs of the ties that all possible trees have, ascending."""
    return _choice_of(web).sure_items()


def exchange(web, tree):
    """Any pair (IN, OUT) of PAIRs whose exchange gains at the tree's own corner; None if the tree is possible."""
    check_web(web)
    check_tree(web, tree)
    return exchange_at(web, tree, corner_of(dict(web.ties), tree, OWN))


def exchange_at(web, tree, numbers):
    """The first pair (IN, OUT) whose exchange makes another tree that costs less with these numbers; None if none."""
    for other in [name for name in pairs_of(web) if name not in tree]:
        for pair in tree:
            # Without a tie on the way between the two places of another one, this one alone joins them again.
            if numbers[other] < numbers[pair] and _is_joined(web, [other, *[part for part in tree if part != pair]]):
                return other, pair
    return None


def _is_tree(web, value):
    pairs = pairs_of(web)
    if not is_tuple_of(value, len(web.places) - 1) or not all([is_one_of(pair, pairs) for pair in value]):
        return False
    return ascends(value) and _is_joined(web, value)


def _is_joined(web, pairs):
    return len(places_reached(web.places, pairs)) == len(web.places)


def _trees_of(web):
    pairs = [pair for pair, _ in web.ties]
    lots = list(combinations(pairs, len(web.places[1:])))
    return [lot for lot in lots if _is_joined(web, lot)]


def _choice_of(web):
    """The choice between all trees, each of which is its own lot."""
    check_web(web)
    return Choice(dict(web.ties), {tree: tree for tree in _trees_of(web)})


def _choice_around(web, tree):
    check_web(web)
    check_tree(web, tree)
    return _choice_of(web)
