"""Mixes of rows that hit targets: sure and possible ones, corner mixes, loads that bar, prices, and their games."""

from cornersure.errors import (
    InvalidColumns,
    InvalidPrices,
    InvalidTarget,
    NotServed,
    TooGreat,
    TooMany,
)
from cornersure.games import check_mix, mix_ends_of, solved_game
from cornersure.kinds import is_integer, is_name, is_tuple_of, lies_in
from cornersure.limits import MOST_COLUMNS, MOST_END, MOST_PRICE
from cornersure.programs import Program
from cornersure.ratios import greatest, is_below, reduced, with_one_bottom
from cornersure.tables import (
    Table,
    all_signs,
    are_end_pairs,
    check_signs,
    check_table,
    column_stretches,
    signed_ends,
)


def check_target(table, target):
    """Raise InvalidTarget for what is no tuple of stretches, one for each column."""
    if not are_end_pairs(target, len(table.columns)):
        raise InvalidTarget(target)


def check_prices(table, prices):
    """Raise InvalidPrices for what is no tuple of prices, one for each row."""
    if not is_tuple_of(prices, len(table)) or not all([_is_price(part) for part in prices]):
        raise InvalidPrices(prices)


def mix_ends(table, mix):
    """For each column the pair of the least and the greatest sum by this mix."""
    check_table(table)
    check_mix(table, mix)
    return mix_ends_of(column_stretches(table), mix)


def is_sure_mix(table, target, mix):
    """Whether the mix hits in all members."""
    ends = _ends_for(table, target, mix)
    return all([lies_in(low, part) and lies_in(high, part) for (low, high), part in zip(ends, target)])


def is_possible_mix(table, target, mix):
    """Whether the mix hits in some member."""
    ends = _ends_for(table, target, mix)
    return all([_meets(pair, part) for pair, part in zip(ends, target)])


def price_of(table, prices, mix):
    """The price of a mix, a fraction."""
    check_table(table)
    check_prices(table, prices)
    check_mix(table, mix)
    tops, bottom = with_one_bottom(mix)
    return reduced(sum([top * price for top, price in zip(tops, prices)]), bottom)


def sure_mix(table, target):
    """Any mix that hits in all members; None if there is none."""
    check_table(table)
    check_target(table, target)
    return _mix_that_holds_nothing_below_zero(sure_payoffs(table, target))


def possible_mix(table, target):
    """Any mix that hits in some member; None if there is none."""
    check_table(table)
    check_target(table, target)
    return _mix_that_holds_nothing_below_zero(possible_payoffs(table, target))


def corner_mix(table, target, signs):
    """Any corner mix for these signs; None if there is none."""
    check_table(table)
    check_target(table, target)
    check_signs(table, signs)
    return _mix_that_holds_nothing_below_zero(corner_payoffs(table, target, signs))


def is_served(table, target):
    """Whether in each member some mix hits."""
    return barring(table, target) is None


def barring(table, target):
    """Any pair of signs and loads that bar them; None if the table is served."""
    check_table(table)
    check_target(table, target)
    for signs in all_signs(table):
        (top, _), (_, loads) = solved_game(corner_payoffs(table, target, signs))
        if top < 0:
            return signs, loads
    return None


def worst_price(table, target, prices):
    """The greatest number, over all members, that the cheapest mix costs that hits."""
    return greatest(_corner_prices(table, target, prices))


def dearest_signs(table, target, prices):
    """The first signs whose cheapest corner mixes cost the worst price."""
    found = _corner_prices(table, target, prices)
    return all_signs(table)[found.index(greatest(found))]


def best_price(table, target, prices):
    """The least price of a possible mix; None if there is none."""
    _check_for_price(table, target, prices)
    return _least_price(possible_payoffs(table, target), prices)


def sure_price(table, target, prices):
    """The least price of a sure mix; None if there is none."""
    _check_for_price(table, target, prices)
    return _least_price(sure_payoffs(table, target), prices)


def corner_game(table, target, signs):
    """The table of the game that is worth at least 0 exactly if there is a corner mix for these signs."""
    check_table(table)
    check_target(table, target)
    check_signs(table, signs)
    return _game_table(table, table.columns, corner_payoffs(table, target, signs))


def sure_game(table, target):
    """The table of the game that is worth at least 0 exactly if there is a sure mix."""
    check_table(table)
    check_target(table, target)
    columns = (*table.columns, *["z" + name for name in table.columns])
    if len(columns) > MOST_COLUMNS:
        raise TooMany(len(columns))
    if len(set(columns)) < len(columns) or not all([is_name(name) for name in columns]):
        raise InvalidColumns(None)
    return _game_table(table, columns, sure_payoffs(table, target))


def corner_payoffs(table, target, signs):
    """The payoffs of the game of these signs: how far the ends keep within the target."""
    aims = signed_ends(target, signs)
    return [_kept_within(signed_ends(stretches, signs), aims, signs) for _, stretches in table.rows]


def sure_payoffs(table, target):
    """The payoffs of the game of sure mixes: how far HIGHs keep below the target's, then LOWs above the target's."""
    return [_kept_below(stretches, target, 1) + _kept_above(stretches, target, -1) for _, stretches in table.rows]


def possible_payoffs(table, target):
    """The payoffs of the game of possible mixes: likewise, with LOWs below and HIGHs above the target's other ends."""
    return [_kept_below(stretches, target, -1) + _kept_above(stretches, target, 1) for _, stretches in table.rows]


def price_program(payoffs, prices):
    """The program of mixes that hold 0 with these payoffs, at the least price."""
    rows = [[-payoff for payoff in column] for column in zip(*payoffs)]
    # The sum of the shares need only be at least 1: if it is greater, less of each of them costs no more.
    return Program([*rows, [-1] * len(prices)], [0] * len(rows) + [-1], prices)


def _is_price(value):
    return is_integer(value) and 0 <= value <= MOST_PRICE


def _ends_for(table, target, mix):
    check_table(table)
    check_target(table, target)
    check_mix(table, mix)
    return mix_ends_of(column_stretches(table), mix)


def _meets(ends, stretch):
    low, high = stretch
    return not is_below((high, 1), ends[0]) and not is_below(ends[1], (low, 1))


def _kept_within(ends, aims, signs):
    return [sign * (aim - end) for end, aim, sign in zip(ends, aims, signs)]


def _kept_below(stretches, target, sign):
    """How far the ends of a row for this sign keep below the target's HIGHs."""
    up = (1,) * len(target)
    return _kept_within(signed_ends(stretches, (sign,) * len(target)), signed_ends(target, up), up)


def _kept_above(stretches, target, sign):
    """How far the ends of a row for this sign keep above the target's LOWs."""
    down = (-1,) * len(target)
    return _kept_within(signed_ends(stretches, (sign,) * len(target)), signed_ends(target, down), down)


def _mix_that_holds_nothing_below_zero(payoffs):
    (top, _), (mix, _) = solved_game(payoffs)
    return mix if top >= 0 else None


def _check_for_price(table, target, prices):
    check_table(table)
    check_target(table, target)
    check_prices(table, prices)


def _least_price(payoffs, prices):
    """The least price of a mix that holds 0 with these payoffs; None if there is none."""
    return price_program(payoffs, prices).least_cost()


def _corner_prices(table, target, prices):
    """The least prices of corner mixes, for all signs, ascending; raise NotServed if some have none."""
    _check_for_price(table, target, prices)
    found = [_least_price(corner_payoffs(table, target, signs), prices) for signs in all_signs(table)]
    if None in found:
        raise NotServed()
    return found


def _game_table(table, columns, payoffs):
    for payoff in [part for row in payoffs for part in row]:
        if not -MOST_END <= payoff <= MOST_END:
            raise TooGreat(payoff)
    rows = [(name, tuple([(payoff, payoff) for payoff in row])) for name, row in zip(table.names, payoffs)]
    return Table(columns, tuple(rows))
