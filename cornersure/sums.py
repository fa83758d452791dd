"""Sums of rows by weights: their ends, foremost rows, rows that are never below others."""

from cornersure.errors import InvalidWeights
from cornersure.kinds import is_integer, is_tuple_of
from cornersure.limits import MOST_WEIGHT
from cornersure.tables import check_table, row_stretches


def check_weights(table, weights):
    """Raise InvalidWeights for what are no weights for the columns."""
    if not is_tuple_of(weights, len(table.columns)) or not all([_is_weight(part) for part in weights]):
        raise InvalidWeights(weights)


def weighed_ends(stretches, weights):
    """The pair of the least and the greatest sum of weight times number over all numbers of the stretches."""
    ends = [(low * weight, high * weight) for (low, high), weight in zip(stretches, weights)]
    return sum([min(pair) for pair in ends]), sum([max(pair) for pair in ends])


def sum_ends(table, name, weights):
    """The pair of the least and the greatest sum of the row."""
    check_table(table)
    stretches = row_stretches(table, name)
    check_weights(table, weights)
    return weighed_ends(stretches, weights)


def foremost(table, weights):
    """The names of all rows that are foremost in some member."""
    ends = _all_ends(table, weights)
    # Its own least sum is never above its greatest one, so that it may be asked for, too.
    most = max([low for low, _ in ends])
    return tuple([name for name, (_, high) in zip(table.names, ends) if high >= most])


def surely_foremost(table, weights):
    """The names of all rows that are foremost in all members."""
    ends = _all_ends(table, weights)
    return tuple([name for at, name in enumerate(table.names) if _is_ahead(ends[at], ends[:at] + ends[at + 1:])])


def never_below(table, name, other):
    """Whether for all members and all weights from 0 on the sum of the first row is at least that of the second."""
    check_table(table)
    stretches, others = row_stretches(table, name), row_stretches(table, other)
    return name == other or all([low >= high for (low, _), (_, high) in zip(stretches, others)])


def lead_ends(table, name, other, weights):
    """The pair of the least and the greatest number by which the sum of the first row is above that of the second."""
    check_table(table)
    stretches, others = row_stretches(table, name), row_stretches(table, other)
    check_weights(table, weights)
    if name == other:
        return 0, 0
    low, high = weighed_ends(stretches, weights)
    other_low, other_high = weighed_ends(others, weights)
    return low - other_high, high - other_low


def _is_weight(value):
    return is_integer(value) and -MOST_WEIGHT <= value <= MOST_WEIGHT


def _all_ends(table, weights):
    check_table(table)
    check_weights(table, weights)
    return [weighed_ends(stretches, weights) for _, stretches in table.rows]


def _is_ahead(ends, others):
    return all([ends[0] >= high for _, high in others])
