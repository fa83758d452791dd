"""Slow and plain ways to answers, beside which those of the package are put."""

import itertools
from fractions import Fraction


def solved(rows, right):
    """The one solution of equations, None if there is none or more than one."""
    many = len(rows)
    lines = [[Fraction(entry) for entry in row] + [Fraction(number)] for row, number in zip(rows, right)]
    for at in range(many):
        chosen = next((row for row in range(at, many) if lines[row][at]), None)
        if chosen is None:
            return None
        lines[at], lines[chosen] = lines[chosen], lines[at]
        lines[at] = [entry / lines[at][at] for entry in lines[at]]
        for row in range(many):
            if row != at and lines[row][at]:
                part = lines[row][at]
                lines[row] = [entry - part * other for entry, other in zip(lines[row], lines[at])]
    return [line[-1] for line in lines]


def worth_by_square_parts(payoffs):
    """The worth: some square part has mixes that make all alike, which hold and allow it in the whole game."""
    rows, columns = len(payoffs), len(payoffs[0])
    most = min(payoffs[0])
    for size in range(1, min(rows, columns) + 1):
        for chosen in itertools.combinations(range(rows), size):
            for places in itertools.combinations(range(columns), size):
                # Shares of the chosen rows, and behind them the number that each of these columns gives.
                lines = [[payoffs[row][place] for row in chosen] + [-1] for place in places]
                shares = solved([*lines, [1] * size + [0]], [0] * size + [1])
                if shares and min(shares[:-1]) >= 0:
                    held = min(sum(share * payoffs[row][place] for share, row in zip(shares, chosen))
                               for place in range(columns))
                    most = max(most, held)
    return most


def corners_of_shares(rows, limits, many):
    """All corners of the mixes whose sums by these rows are at most the limits."""
    walls = [*zip(rows, limits), *[([-(at == other) for other in range(many)], 0) for at in range(many)]]
    found = []
    for chosen in itertools.combinations(walls, many - 1):
        shares = solved([[1] * many, *[row for row, _ in chosen]], [1, *[limit for _, limit in chosen]])
        if shares and all(dot(row, shares) <= limit for row, limit in walls):
            found.append(shares)
    return found


def dot(one, other):
    return sum(a * b for a, b in zip(one, other))


def without_the_last(walls):
    """Rows (entries, limit) for all numbers but the last, that can be kept exactly if these can (Fourier, Motzkin)."""
    free = [(row[:-1], limit) for row, limit in walls if row[-1] == 0]
    above = [([Fraction(entry, row[-1]) for entry in row], Fraction(limit, row[-1])) for row, limit in walls if row[-1] > 0]
    below = [([Fraction(entry, -row[-1]) for entry in row], Fraction(limit, -row[-1])) for row, limit in walls if row[-1] < 0]
    for one, limit in above:
        for other, other_limit in below:
            free.append(([a + b for a, b in zip(one[:-1], other[:-1])], limit + other_limit))
    seen = {}
    for row, limit in free:
        size = max([abs(entry) for entry in row], default=0) or 1
        key = tuple(Fraction(entry, size) for entry in row)
        seen[key] = min(seen.get(key, Fraction(limit, size)), Fraction(limit, size))
    return [(list(key), limit) for key, limit in seen.items()]


def range_of_the_first(walls, many):
    """The ends of the first of the numbers that keep these rows, None for no end; no pair at all if none keep them."""
    for _ in range(many - 1):
        walls = without_the_last(walls)
    highs = [Fraction(limit) / row[0] for row, limit in walls if row[0] > 0]
    lows = [Fraction(limit) / row[0] for row, limit in walls if row[0] < 0]
    if any(limit < 0 for row, limit in walls if row[0] == 0):
        return None
    low, high = max(lows, default=None), min(highs, default=None)
    if low is not None and high is not None and low > high:
        return None
    return low, high


def cost_range(walls, weights):
    """The same for the sum of weight times number of the numbers that keep these rows."""
    many = len(weights)
    # The sum is a further number, ahead of the others.
    rows = [([0, *row], limit) for row, limit in walls]
    rows += [([1, *[-weight for weight in weights]], 0), ([-1, *weights], 0)]
    return range_of_the_first(rows, many + 1)


def can_be_kept(walls, many):
    return range_of_the_first(walls, many) is not None
