"""Choices beside all corners of their items: for ways, for pairings."""

import itertools


def corners_of_items(stretches):
    """All corners: what each item costs there."""
    names = list(stretches)
    for numbers in itertools.product(*[sorted(set(stretches[name])) for name in names]):
        yield dict(zip(names, numbers))


class OwnChoice:
    """What a choice of lots is by all its corners: `lots` has the items of each lot by the lot's name."""

    def __init__(self, stretches, lots):
        corners = list(corners_of_items(stretches))
        costs = [{name: sum(corner[item] for item in lot) for name, lot in lots.items()} for corner in corners]
        losses = {name: [told[name] - min(told.values()) for told in costs] for name in lots}
        self.least_costs = tuple(min(sum(stretches[item][end] for item in lot) for lot in lots.values())
                                 for end in (0, 1))
        self.possible = tuple(sorted(name for name in lots if min(losses[name]) == 0))
        self.sure = tuple(sorted(name for name in lots if max(losses[name]) == 0))
        self.loss = {name: max(losses[name]) for name in lots}
        self.calm = tuple(sorted(name for name in lots if self.loss[name] == min(self.loss.values())))
        self.possible_items = tuple(sorted({item for name in self.possible for item in lots[name]}))
        self.sure_items = tuple(item for item in self.possible_items
                                if all(item in lots[name] for name in self.possible))


def corner_costs(stretches, lots, name, inside):
    """The costs of all lots at the corner with this end, 0 or 1, for the items of a lot, the other end for others."""
    numbers = {item: stretch[inside if item in lots[name] else 1 - inside] for item, stretch in stretches.items()}
    return numbers, {other: sum(numbers[item] for item in lot) for other, lot in lots.items()}
