"""Choices: lots of items, each item known within a stretch, and which lots are best at their corners."""


class Choice:
    """Lots by their names, which ascend, each a tuple of items; and the stretches of all items."""

    def __init__(self, stretches, lots):
        self._stretches = stretches
        self._lots = lots

    def best_cost(self, numbers):
        """The cost of a best lot with these numbers of the items."""
        return min([lot_cost(lot, numbers) for lot in self._lots.values()])

    def least_costs(self):
        """The pair of the costs of best lots at all-LOW and at all-HIGH."""
        lows = {item: low for item, (low, _) in self._stretches.items()}
        highs = {item: high for item, (_, high) in self._stretches.items()}
        return self.best_cost(lows), self.best_cost(highs)

    def own_corner(self, name):
        """The numbers with LOW for the items of a lot and HIGH for all others."""
        return self._corner(name, 0, 1)

    def far_corner(self, name):
        """The numbers with HIGH for the items of a lot and LOW for all others."""
        return self._corner(name, 1, 0)

    def is_possible(self, name):
        """Whether the lot is best in some member."""
        return self._loss(name, self.own_corner(name)) == 0

    def is_sure(self, name):
        """Whether the lot is best in all members."""
        return self.worst_loss(name) == 0

    def worst_loss(self, name):
        """The greatest loss of the lot in a member."""
        return self._loss(name, self.far_corner(name))

    def better(self, name):
        """A lot that costs less than this one at its far corner; None if it is sure."""
        numbers = self.far_corner(name)
        found = min(list(self._lots), key=lambda other: lot_cost(self._lots[other], numbers))
        return found if lot_cost(self._lots[found], numbers) < lot_cost(self._lots[name], numbers) else None

    def possible_lots(self):
        """The names of all possible lots, ascending."""
        return tuple([name for name in self._lots if self.is_possible(name)])

    def calm_lots(self):
        """The names of all lots with the least worst loss, ascending."""
        losses = [(name, self.worst_loss(name)) for name in self._lots]
        least = min([loss for _, loss in losses])
        return tuple([name for name, loss in losses if loss == least])

    def possible_items(self):
        """The items that some possible lot has, ascending."""
        lots = [self._lots[name] for name in self.possible_lots()]
        return tuple([item for item in sorted(self._stretches) if any([item in lot for lot in lots])])

    def sure_items(self):
        """The items that all possible lots have, ascending."""
        lots = [self._lots[name] for name in self.possible_lots()]
        return tuple([item for item in sorted(self._stretches) if all([item in lot for lot in lots])])

    def _corner(self, name, inside, outside):
        lot = self._lots[name]
        return {item: stretch[inside if item in lot else outside] for item, stretch in self._stretches.items()}

    def _loss(self, name, numbers):
        return lot_cost(self._lots[name], numbers) - self.best_cost(numbers)


def lot_cost(lot, numbers):
    """The sum of the numbers of a lot's items."""
    return sum([numbers[item] for item in lot])
