"""Choices: lots of items, each item known within a stretch, and which lots are best at their corners."""

# Which ends the items of a lot have, LOW or HIGH, at its own corner and at its far corner.
OWN = 0
FAR = 1


class Choice:
    """Lots by their names, which ascend, each a tuple of items; and the stretches of all items."""

    def __init__(self, stretches, lots):
        self._stretches = stretches
        self._lots = lots

    def best_cost(self, numbers):
        """The cost of a best lot with these numbers of the items."""
        return min([lot_cost(lot, numbers) for lot in self._lots.values()])

    def least_costs(self):
        """The pair of the costs of best lots at all-LOW and at all-HIGH."""
        lows = {item: low for item, (low, _) in self._stretches.items()}
        highs = {item: high for item, (_, high) in self._stretches.items()}
        return self.best_cost(lows), self.best_cost(highs)

    def corner(self, name, end):
        """The numbers at the own or the far corner of a lot."""
        return corner_of(self._stretches, self._lots[name], end)

    def is_possible(self, name):
        """Whether the lot is best in some member."""
        return self._loss(name, self.corner(name, OWN)) == 0

    def is_sure(self, name):
        """Whether the lot is best in all members."""
        return self.worst_loss(name) == 0

    def worst_loss(self, name):
        """The greatest loss of the lot in a member."""
        return self._loss(name, self.corner(name, FAR))

    def better(self, name, numbers):
        """A lot that costs less than this one with these numbers; None if none does."""
        found = min(list(self._lots), key=lambda other: lot_cost(self._lots[other], numbers))
        return found if lot_cost(self._lots[found], numbers) < lot_cost(self._lots[name], numbers) else None

    def possible_lots(self):
        """The names of all possible lots, ascending."""
        return tuple([name for name in self._lots if self.is_possible(name)])

    def calm_lots(self):
        """The names of all lots with the least worst loss, ascending."""
        losses = [(name, self.worst_loss(name)) for name in self._lots]
        least = min([loss for _, loss in losses])
        return tuple([name for name, loss in losses if loss == least])

    def possible_items(self):
        """The items that some possible lot has, ascending."""
        lots = [self._lots[name] for name in self.possible_lots()]
        return tuple([item for item in sorted(self._stretches) if any([item in lot for lot in lots])])

    def sure_items(self):
        """The items that all possible lots have, ascending."""
        lots = [self._lots[name] for name in self.possible_lots()]
        return tuple([item for item in sorted(self._stretches) if all([item in lot for lot in lots])])

    def _loss(self, name, numbers):
        return lot_cost(self._lots[name], numbers) - self.best_cost(numbers)


def corner_of(stretches, lot, end):
    """The numbers at the own or the far corner of a lot: this end for its items, the other one for all others."""
    return {item: stretch[end if item in lot else 1 - end] for item, stretch in stretches.items()}


def lot_cost(lot, numbers):
    """The sum of the numbers of a lot's items."""
    return sum([numbers[item] for item in lot])
