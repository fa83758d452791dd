"""Papers that show lots best, or not best, at a corner: for ways, pairings, trees and cuts."""

from cornersure.choices import corner_of, lot_cost
from cornersure.flows import check_cut, pairs_out
from cornersure.kinds import is_integer, is_one_of, is_tuple_of
from cornersure.pairings import check_pairing
from cornersure.trees import check_tree, exchange_at
from cornersure.ways import check_way, pairs_of_way
from cornersure.webs import check_two_places, pairs_of


def are_integers(value, many):
    """Whether any value is a tuple of that many integers."""
    return is_tuple_of(value, many) and all([is_integer(part) for part in value])


def is_flow(web, amounts, numbers, brought):
    """Whether any value tells how much goes over each tie, at most its number, so that just this comes to each place.

    `brought` has what comes to a place, less what goes away; nothing is asked of places that it leaves out.
    """
    if not are_integers(amounts, len(web)):
        return False
    steps = list(zip(pairs_of(web), amounts))
    if any([abs(amount) > numbers[pair] for pair, amount in steps]):
        return False
    return all([_brought_to(place, steps) == brought[place] for place in brought])


def shows_way(web, way, end, is_best, paper):
    """Whether a paper shows a way best, or not best, at its own or its far corner."""
    check_way(web, way)
    lot = pairs_of_way(way)
    numbers = corner_of(dict(web.ties), lot, end)
    if is_best:
        return _are_heights(web, way, numbers, paper)
    check_way(web, paper)
    is_beside = paper[0] == way[0] and paper[-1] == way[-1]
    return is_beside and lot_cost(pairs_of_way(paper), numbers) < lot_cost(lot, numbers)


def shows_pairing(table, pairing, end, is_best, paper):
    """The same for a pairing."""
    check_pairing(table, pairing)
    places = {(name, column): table.stretch(name, column) for name in table.names for column in table.columns}
    lot = list(zip(pairing, table.columns))
    numbers = corner_of(places, lot, end)
    if is_best:
        return _are_prices(table, lot, numbers, paper)
    check_pairing(table, paper)
    return lot_cost(list(zip(paper, table.columns)), numbers) < lot_cost(lot, numbers)


def shows_tree(web, tree, end, is_best, paper):
    """The same for a tree."""
    check_tree(web, tree)
    numbers = corner_of(dict(web.ties), tree, end)
    if is_best:
        return is_tuple_of(paper, 0) and exchange_at(web, tree, numbers) is None
    if not is_tuple_of(paper, 2) or not is_one_of(paper[0], pairs_of(web)) or not is_one_of(paper[1], tree):
        return False
    other, pair = paper
    after = tuple(sorted([other, *[part for part in tree if part != pair]]))
    # After a tie that is not on the way between the two places of the other one, that one is no tree's.
    check_tree(web, after)
    return numbers[other] < numbers[pair]


def shows_cut(web, parts, end, is_best, paper):
    """The same for a cut, told by the two places and the cut."""
    place, other, cut = parts
    check_two_places(web, place, other)
    check_cut(web, place, other, cut)
    lot = pairs_out(web, cut)
    numbers = corner_of(dict(web.ties), lot, end)
    if is_best:
        brought = {letter: 0 for letter in web.places if letter not in (place, other)}
        return is_flow(web, paper, numbers, {**brought, other: lot_cost(lot, numbers)})
    check_cut(web, place, other, paper)
    return lot_cost(pairs_out(web, paper), numbers) < lot_cost(lot, numbers)


def _brought_to(place, steps):
    come = sum([amount for pair, amount in steps if pair[1] == place])
    return come - sum([amount for pair, amount in steps if pair[0] == place])


def _are_heights(web, way, numbers, paper):
    if not are_integers(paper, len(web.places)):
        return False
    heights = {place: height for place, height in zip(web.places, paper)}
    if any([abs(heights[pair[0]] - heights[pair[1]]) > numbers[pair] for pair in numbers]):
        return False
    return heights[way[-1]] - heights[way[0]] == lot_cost(pairs_of_way(way), numbers)


def _are_prices(table, lot, numbers, paper):
    if not is_tuple_of(paper, 2):
        return False
    rows, columns = paper
    if not are_integers(rows, len(table)) or not are_integers(columns, len(table.columns)) or min(rows) < 0:
        return False
    taken = [name for name, _ in lot]
    if any([price > 0 and name not in taken for name, price in zip(table.names, rows)]):
        return False
    worths = {(name, column): number - price for name, price in zip(table.names, rows)
              for column, number in zip(table.columns, columns)}
    is_below_all = all([worths[place] <= numbers[place] for place in worths])
    return is_below_all and all([worths[place] == numbers[place] for place in lot])
