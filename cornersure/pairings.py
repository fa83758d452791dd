"""Pairings of a table, which give each column a row: their costs, and which are best in some, in all members."""

from itertools import permutations

from cornersure.choices import FAR, OWN, Choice
from cornersure.errors import InvalidPairing, Narrow
from cornersure.kinds import is_one_of, is_tuple_of
from cornersure.ratios import total
from cornersure.tables import check_member, check_table


class PairingChoice(Choice):
    """The choice between all pairings of a table."""

    def __init__(self, table):
        self._names = table.names
        self._columns = table.columns
        stretches = {(name, column): stretch for name, row in table.rows for column, stretch in zip(table.columns, row)}
        lots = {pairing: tuple(zip(pairing, table.columns)) for pairing in _pairings_of(table)}
        super().__init__(stretches, lots)

    def best_cost(self, numbers):
        """The cost of a best pairing, column by column: the least costs with which rows can be taken."""
        # To go through all pairings beside each of them would be slow for the greatest tables.
        costs = {0: 0}
        for column in self._columns:
            costs = self._with_column(costs, [numbers[(name, column)] for name in self._names])
        return min(costs.values())

    def _with_column(self, costs, numbers):
        """The least costs by marks of taken rows, after a column with these numbers has got a row more."""
        after = {}
        for taken, cost in costs.items():
            for row, number in enumerate(numbers):
                marks = taken | 1 << row
                if marks != taken and (marks not in after or cost + number < after[marks]):
                    after[marks] = cost + number
        return after


def check_pairing(table, pairing):
    """Raise InvalidPairing for what is no pairing of the table."""
    if not _is_pairing(table, pairing):
        raise InvalidPairing(pairing)


def all_pairings(table):
    """All pairings, ascending."""
    _check_not_narrow(table)
    return tuple(_pairings_of(table))


def pairing_cost(table, pairing, member):
    """The cost of a pairing in a member, a fraction."""
    check_table(table)
    check_pairing(table, pairing)
    check_member(table, member)
    return total([member[table.names.index(name)][column] for column, name in enumerate(pairing)])


def least_pairing_costs(table):
    """The pair of the least costs at all-LOW and at all-HIGH."""
    return _choice_of(table).least_costs()


def is_possible_pairing(table, pairing):
    """Whether the pairing is best in some member."""
    return pairing_choice(table, pairing).is_possible(pairing)


def is_sure_pairing(table, pairing):
    """Whether the pairing is best in all members."""
    return pairing_choice(table, pairing).is_sure(pairing)


def pairing_loss(table, pairing):
    """The worst loss of the pairing."""
    return pairing_choice(table, pairing).worst_loss(pairing)


def possible_pairings(table):
    """All possible pairings, ascending."""
    return _choice_of(table).possible_lots()


def calm_pairings(table):
    """All calm pairings, ascending."""
    return _choice_of(table).calm_lots()


def possible_places(table):
    """The pairs (ROW, COLUMN) that some possible pairing has, ascending."""
    return _choice_of(table).possible_items()


def sure_places(table):
    """The pairs (ROW, COLUMN) that all possible pairings have, ascending."""
    return _choice_of(table).sure_items()


def pairing_prices(table, pairing):
    """Any prices, integers, that show the pairing best at its own corner; None if it is not possible."""
    choice = pairing_choice(table, pairing)
    return prices_at(table, pairing, choice.corner(pairing, OWN)) if choice.is_possible(pairing) else None


def better_pairing(table, pairing):
    """Any pairing that costs less at the far corner of this one; None if it is sure."""
    choice = pairing_choice(table, pairing)
    return choice.better(pairing, choice.corner(pairing, FAR))


def pairing_choice(table, pairing):
    """The choice between all pairings, this one among them."""
    # A narrow table has no pairings, so that it needs no look of its own.
    check_table(table)
    check_pairing(table, pairing)
    return PairingChoice(table)


def prices_at(table, pairing, numbers):
    """Prices that show the pairing best with these numbers: the least ones of rows by which no other row is cheaper."""
    prices = {name: 0 for name in table.names}
    # What a row's price raises goes on from row to row, over each column once at most, as the pairing is best.
    for _ in pairing:
        for place in zip(pairing, table.columns):
            for name in table.names:
                cheaper = numbers[place] - numbers[(name, place[1])]
                prices[name] = max(prices[name], prices[place[0]] + cheaper)
    columns = [prices[place[0]] + numbers[place] for place in zip(pairing, table.columns)]
    return tuple([prices[name] for name in table.names]), tuple(columns)


def _is_pairing(table, value):
    if not is_tuple_of(value, len(table.columns)) or not all([is_one_of(name, table.names) for name in value]):
        return False
    return len(set(value)) == len(value)


def _pairings_of(table):
    names = sorted(table.names)
    return list(permutations(names, len(table.columns)))


def _check_not_narrow(table):
    check_table(table)
    if len(table) < len(table.columns):
        raise Narrow(len(table))


def _choice_of(table):
    _check_not_narrow(table)
    return PairingChoice(table)
