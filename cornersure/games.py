"""Games of two players over tables: worths, mixes that hold or allow them, saddles."""

from cornersure.errors import InvalidMix
from cornersure.kinds import is_fraction, is_tuple_of
from cornersure.programs import Program
from cornersure.ratios import all_over, greatest, least, reduced, with_one_bottom
from cornersure.sums import weighed_ends
from cornersure.tables import check_member, check_table, column_stretches, highs, lows


def check_mix(table, mix):
    """Raise InvalidMix for what is no mix of rows."""
    if not _is_mix(mix, len(table)):
        raise InvalidMix(mix)


def mix_ends_of(columns, mix):
    """For each column of stretches the pair of the least and the greatest sum by a mix, fractions."""
    tops, bottom = with_one_bottom(mix)
    return tuple([all_over(weighed_ends(stretches, tops), bottom) for stretches in columns])


def solved_game(payoffs):
    """The worth of a game with integers as payoffs, and a pair of best mixes of rows and of columns."""
    # With payoffs above 0, shares by which no row gets more than 1 have together at most one part of the worth.
    lift = 1 - min([min(row) for row in payoffs])
    rows = [[payoff + lift for payoff in row] for row in payoffs]
    program = Program(rows, [1] * len(rows), [-1] * len(rows[0]))
    shares = program.number_tops()
    whole = sum(shares)
    mixes = all_over(program.load_tops(), whole), all_over(shares, whole)
    return reduced(program.bottom - lift * whole, whole), mixes


def worth(table, member):
    """The worth of a member, a fraction."""
    return _solved_member(table, member)[0]


def worths(table):
    """The pair of the worths of all-LOW and all-HIGH."""
    check_table(table)
    return solved_game(lows(table))[0], solved_game(highs(table))[0]


def holds(table, mix):
    """The greatest number that a mix of rows holds in all members."""
    check_table(table)
    check_mix(table, mix)
    return least([low for low, _ in mix_ends_of(column_stretches(table), mix)])


def allows(table, columns_mix):
    """The least number that a mix of columns allows in all members at most."""
    check_table(table)
    if not _is_mix(columns_mix, len(table.columns)):
        raise InvalidMix(columns_mix)
    rows = [stretches for _, stretches in table.rows]
    return greatest([high for _, high in mix_ends_of(rows, columns_mix)])


def safe_mix(table):
    """Any mix of rows that holds the worth of all-LOW in all members."""
    check_table(table)
    return solved_game(lows(table))[1][0]


def keeping_mix(table):
    """Any mix of columns that allows at most the worth of all-HIGH in all members."""
    check_table(table)
    return solved_game(highs(table))[1][1]


def best_mixes(table, member):
    """Any pair of a mix of rows that holds the worth in this member and a mix of columns that allows no more."""
    return _solved_member(table, member)[1]


def possible_saddles(table):
    """The pairs (ROW, COLUMN) of all saddles of some member."""
    return _places_where(table, _is_possible_saddle)


def sure_saddles(table):
    """The pairs (ROW, COLUMN) of all saddles of all members."""
    return _places_where(table, _is_sure_saddle)


def _is_mix(value, many):
    if not is_tuple_of(value, many) or not all([is_fraction(part) and part[0] >= 0 for part in value]):
        return False
    tops, bottom = with_one_bottom(value)
    return sum(tops) == bottom


def _solved_member(table, member):
    check_table(table)
    check_member(table, member)
    tops, bottom = with_one_bottom([part for numbers in member for part in numbers])
    many = len(table.columns)
    (top, part), mixes = solved_game([tops[at:at + many] for at in range(0, len(tops), many)])
    return reduced(top, part * bottom), mixes


def _places_where(table, is_wanted):
    check_table(table)
    columns = column_stretches(table)
    found = []
    for row, (name, stretches) in enumerate(table.rows):
        for column, place in enumerate(table.columns):
            above_and_below = columns[column][:row] + columns[column][row + 1:]
            beside = stretches[:column] + stretches[column + 1:]
            if is_wanted(stretches[column], above_and_below, beside):
                found.append((name, place))
    return tuple(found)


def _is_possible_saddle(stretch, above_and_below, beside):
    low, high = stretch
    return max([low, *[least_one for least_one, _ in above_and_below]]) <= min([high, *[most for _, most in beside]])


def _is_sure_saddle(stretch, above_and_below, beside):
    low, high = stretch
    return all([low >= most for _, most in above_and_below]) and all([high <= least_one for least_one, _ in beside])
