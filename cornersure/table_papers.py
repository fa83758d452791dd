"""Papers for claims about games, mixes and systems of a table."""

from cornersure.games import allows, check_mix, holds
from cornersure.kinds import is_fraction, is_tuple_of
from cornersure.mixes import (
    check_prices,
    check_target,
    corner_payoffs,
    is_possible_mix,
    is_sure_mix,
    possible_payoffs,
    price_of,
    sure_payoffs,
)
from cornersure.ratios import is_below, total, with_one_bottom
from cornersure.systems import check_bounds, is_possible_answer, is_sure_answer
from cornersure.tables import (
    all_high,
    all_low,
    all_signs,
    check_member,
    check_signs,
    column_stretches,
    exact,
    signed_ends,
)


def shows_worth(table, word, number, paper):
    """Whether a paper shows a claim about worths: "safe", "unsafe", "hoped" or "unhoped"."""
    if not is_fraction(number):
        return False
    if word == "safe":
        return not is_below(holds(table, paper), number)
    if word == "hoped":
        return not is_below(holds(exact(table, all_high(table)), paper), number)
    if word == "unhoped":
        return not is_below(number, allows(table, paper))
    return not is_below(number, allows(exact(table, all_low(table)), paper))


def shows_mix(table, word, target, paper):
    """The same for "one", "split", "each", "barred", "some" and "none"."""
    check_target(table, target)
    if word == "one":
        return is_sure_mix(table, target, paper)
    if word == "some":
        return is_possible_mix(table, target, paper)
    if word == "each":
        return _are_corner_mixes(table, target, paper)
    if not is_tuple_of(paper, 2):
        return False
    one, other = paper
    if word == "barred":
        check_signs(table, one)
        return _are_loads(other, len(target)) and _bar(corner_payoffs(table, target, one), other)
    if not _are_loads(one, len(target)) or not _are_loads(other, len(target)):
        return False
    payoffs = sure_payoffs(table, target) if word == "split" else possible_payoffs(table, target)
    return _bar(payoffs, one + other)


def shows_price(table, word, parts, paper):
    """The same for "costs" and "asks"."""
    target, prices, number = parts
    check_target(table, target)
    check_prices(table, prices)
    if not is_fraction(number):
        return False
    if word == "costs":
        if not _are_corner_mixes(table, target, paper):
            return False
        return not any([is_below(number, price_of(table, prices, mix)) for mix in paper])
    if not is_tuple_of(paper, 3):
        return False
    signs, loads, least = paper
    check_signs(table, signs)
    if not _are_loads(loads, len(target)) or not is_fraction(least) or is_below(least, number):
        return False
    payoffs = corner_payoffs(table, target, signs)
    asked = [total([least, _loaded(loads, row)]) for row in payoffs]
    return not any([is_below((price, 1), part) for price, part in zip(prices, asked)])


def shows_answer(table, word, bounds, paper):
    """The same for "one answer", "barred answer", "some answer" and "no answer"."""
    check_bounds(table, bounds)
    if word == "one answer":
        return is_sure_answer(table, bounds, paper)
    if word == "some answer":
        return is_possible_answer(table, bounds, paper)
    if word == "no answer":
        return _are_barring_weights(table, bounds, paper)
    if not is_tuple_of(paper, 2):
        return False
    member, loads = paper
    check_member(table, member)
    if not _are_loads(loads, len(table)) or _loaded(loads, [low for low, _ in bounds])[0] >= 0:
        return False
    return all([_loaded_fractions(loads, column)[0] == 0 for column in zip(*member)])


def _are_loads(value, many):
    return is_tuple_of(value, many) and all([is_fraction(part) and part[0] >= 0 for part in value])


def _loaded(loads, numbers):
    """The sum of load times number, a fraction."""
    return _loaded_fractions(loads, [(number, 1) for number in numbers])


def _loaded_fractions(loads, fractions):
    tops, bottom = with_one_bottom(loads)
    others, part = with_one_bottom(fractions)
    return sum([top * other for top, other in zip(tops, others)]), bottom * part


def _bar(payoffs, loads):
    """Whether the loaded sum is below 0 for each row."""
    return all([_loaded(loads, row)[0] < 0 for row in payoffs])


def _are_corner_mixes(table, target, value):
    if not is_tuple_of(value, len(all_signs(table))):
        return False
    for signs, mix in zip(all_signs(table), value):
        check_mix(table, mix)
        payoffs = corner_payoffs(table, target, signs)
        if any([_loaded(mix, column)[0] < 0 for column in zip(*payoffs)]):
            return False
    return True


def _are_barring_weights(table, bounds, value):
    if not is_tuple_of(value, len(all_signs(table))):
        return False
    highs = [high for _, high in bounds]
    return all([_is_barring_weight(table, highs, signs, loads) for signs, loads in zip(all_signs(table), value)])


def _is_barring_weight(table, highs, signs, loads):
    if not _are_loads(loads, len(table)) or _loaded(loads, highs)[0] >= 0:
        return False
    columns = list(zip(signs, column_stretches(table)))
    # LOW for 1 and HIGH for -1: the other way round than corners have it.
    return all([sign * _loaded(loads, signed_ends(column, [-sign] * len(table)))[0] >= 0 for sign, column in columns])
