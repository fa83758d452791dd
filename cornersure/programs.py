"""Linear programs in integers: numbers from 0 on that keep rows of inequalities, at the least cost."""

from cornersure.ratios import reduced


class Program:
    """Numbers from 0 on, each row's sum of which is at most its limit, at the least cost.

    The numbers count from 0; behind them come the slacks, a row's limit less its sum, which are from 0 on, too.
    At each time some of all these are free, and stand at 0; each line tells one of the others, which are settled:
    its last entry less the other entries times the free ones, all divided by `bottom`, which is above 0. The last
    line tells the cost likewise.
    """

    def __init__(self, rows, limits, costs):
        self._many = len(costs)
        self._free = list(range(len(costs)))
        self._settled = list(range(len(costs), len(costs) + len(rows)))
        self._lines = [[*row, limit] for row, limit in zip(rows, limits)]
        self._lines.append([*[-cost for cost in costs], 0])
        self.bottom = 1
        self._barring = self._keep_limits()
        self._has_least = self._barring is None and self._lower_cost()

    def is_kept(self):
        """Whether some numbers keep all limits."""
        return self._barring is None

    def least_cost(self):
        """The least cost, a fraction, if the limits are kept; None if there is no least one."""
        return reduced(self._lines[-1][-1], self.bottom) if self._has_least else None

    def number_tops(self):
        """The numbers that were found, times `bottom`."""
        ends = {name: line[-1] for name, line in zip(self._settled, self._lines)}
        return [ends.get(name, 0) for name in range(self._many)]

    def load_tops(self):
        """Loads from 0 on of the rows, times `bottom`, if there is a least cost.

        For each number the loaded sum is at least the opposite of its cost, and the loaded sum of the limits is the
        opposite of the least cost; so no numbers cost less.
        """
        loads = {name: -entry for name, entry in zip(self._free, self._lines[-1])}
        return self._of_slacks(loads)

    def barring_tops(self):
        """Loads from 0 on of the rows, times `bottom`, if no numbers keep all limits.

        For each number the loaded sum is at least 0, but the loaded sum of the limits is below 0.
        """
        # The line that cannot be mended is the sum of the rows by just these loads.
        loads = {name: entry for name, entry in zip(self._free, self._lines[self._barring])}
        loads[self._settled[self._barring]] = self.bottom
        return self._of_slacks(loads)

    def _of_slacks(self, loads):
        return [loads.get(name, 0) for name in range(self._many, self._many + len(self._settled))]

    def _keep_limits(self):
        """Exchange until no settled one is below 0: None; or the index of a line that bars it."""
        # Always the first ones that will do: so it does not go round in circles (Bland's rule).
        while True:
            row = _first([at for at, line in enumerate(self._lines[:-1]) if line[-1] < 0], self._settled)
            if row is None:
                return None
            column = _first([at for at, entry in enumerate(self._lines[row][:-1]) if entry < 0], self._free)
            if column is None:
                return row
            self._exchange(row, column)

    def _lower_cost(self):
        """Exchange as long as that lowers the cost: True; False if nothing ends it."""
        while True:
            column = _first([at for at, entry in enumerate(self._lines[-1][:-1]) if entry > 0], self._free)
            if column is None:
                return True
            row = self._tightest_row(column)
            if row is None:
                return False
            self._exchange(row, column)

    def _tightest_row(self, column):
        """The line whose settled one comes to 0 first if this free one grows; None if none does."""
        found = None
        for row, line in enumerate(self._lines[:-1]):
            if line[column] > 0 and (found is None or self._is_tighter(row, found, column)):
                found = row
        return found

    def _is_tighter(self, row, other, column):
        here = self._lines[row][-1] * self._lines[other][column]
        there = self._lines[other][-1] * self._lines[row][column]
        return here < there or here == there and self._settled[row] < self._settled[other]

    def _exchange(self, row, column):
        """Settle the free one of this column, and free the one that this line tells."""
        chosen = self._lines[row]
        pivot = chosen[column]
        for at, line in enumerate(list(self._lines)):
            if at != row:
                self._lines[at] = self._exchanged(line, chosen, column)
        chosen[column] = self.bottom
        self.bottom = pivot
        if pivot < 0:
            self._lines = [[-entry for entry in entries] for entries in self._lines]
            self.bottom = -pivot
        self._settled[row], self._free[column] = self._free[column], self._settled[row]

    def _exchanged(self, line, chosen, column):
        # All entries are determinants of the first ones, so that the division leaves nothing over.
        pivot, share = chosen[column], line[column]
        after = [(entry * pivot - share * other) // self.bottom for entry, other in zip(line, chosen)]
        after[column] = -share
        return after


def _first(places, names):
    """The place with the least name; None without any place."""
    return min(places, key=lambda at: names[at], default=None)
