"""A plain checker beside which that of the package is put: each word of the document, with Python's own fractions."""

import itertools
from fractions import Fraction
from math import gcd

from cornersure.errors import InvalidText
from cornersure.seats import Counts
from cornersure.tables import Table
from cornersure.times import Times
from cornersure.webs import Web


class No(Exception):
    """A part that has not the form that is asked for."""


def need(truth):
    if not truth:
        raise No


def parts_of(value, many=None):
    need(value.__class__ is tuple and (many is None or len(value) == many))
    return value


def integer(value):
    need(value.__class__ is int)
    return value


def integers(value, many):
    return [integer(part) for part in parts_of(value, many)]


def fraction(value):
    top, bottom = integers(value, 2)
    need(bottom > 0 and gcd(top, bottom) == 1)
    return Fraction(top, bottom)


def fractions(value, many):
    return [fraction(part) for part in parts_of(value, many)]


def loads_told(value, many):
    told = fractions(value, many)
    need(min(told) >= 0)
    return told


def mix_told(value, many):
    told = loads_told(value, many)
    need(sum(told) == 1)
    return told


def stretches(value, many, least, most):
    for low, high in [integers(part, 2) for part in parts_of(value, many)]:
        need(least <= low <= high <= most)
    return value


def signs_told(value, many):
    told = integers(value, many)
    need(all(sign in (1, -1) for sign in told))
    return told


def one_of(value, names):
    need(value.__class__ is str and value in names)
    return value


def thing(kind, text):
    need(text.__class__ is str)
    try:
        return kind.told(text)
    except InvalidText:
        raise No from None


def every_sign(many):
    return itertools.product((-1, 1), repeat=many)


class Grid:
    """A table's numbers: `low[r][c]` and `high[r][c]`."""

    def __init__(self, text):
        self.table = thing(Table, text)
        rows = [row for _, row in self.table.rows]
        self.low = [[low for low, _ in row] for row in rows]
        self.high = [[high for _, high in row] for row in rows]
        self.rows, self.columns = range(len(rows)), range(len(self.table.columns))

    def end(self, row, column, sign):
        return (self.high if sign == 1 else self.low)[row][column]

    def column_sum(self, mix, numbers, column):
        return sum(mix[row] * numbers[row][column] for row in self.rows)

    def row_sum(self, mix, numbers, row):
        return sum(mix[column] * numbers[row][column] for column in self.columns)


def worths(word, parts, paper):
    grid, number = Grid(parts[0]), fraction(parts[1])
    numbers = grid.low if word in ("safe", "unsafe") else grid.high
    if word in ("safe", "hoped"):
        mix = mix_told(paper, len(grid.rows))
        return all(grid.column_sum(mix, numbers, column) >= number for column in grid.columns)
    mix = mix_told(paper, len(grid.columns))
    return all(grid.row_sum(mix, numbers, row) <= number for row in grid.rows)


def is_corner_mix(grid, target, signs, mix):
    for column, sign in enumerate(signs):
        if sign == 1 and grid.column_sum(mix, grid.high, column) > target[column][1]:
            return False
        if sign == -1 and grid.column_sum(mix, grid.low, column) < target[column][0]:
            return False
    return True


def corner_mixes(grid, target, paper):
    parts_of(paper, 2 ** len(grid.columns))
    mixes = [mix_told(mix, len(grid.rows)) for mix in paper]
    need(all(is_corner_mix(grid, target, signs, mix) for signs, mix in zip(every_sign(len(grid.columns)), mixes)))
    return mixes


def beyond(grid, target, signs, loads, row):
    """The sum of load times sign times (end of the row - end of the target)."""
    return sum(loads[column] * sign * (grid.end(row, column, sign) - target[column][sign == 1])
               for column, sign in enumerate(signs))


def mixes(word, parts, paper):
    grid = Grid(parts[0])
    many = len(grid.columns)
    target = stretches(parts[1], many, -10000, 10000)
    if word == "each":
        return bool(corner_mixes(grid, target, paper))
    if word in ("one", "some"):
        mix = mix_told(paper, len(grid.rows))
        sums = [(grid.column_sum(mix, grid.low, column), grid.column_sum(mix, grid.high, column)) for column in grid.columns]
        if word == "one":
            return all(low >= aim[0] and high <= aim[1] for (low, high), aim in zip(sums, target))
        return all(low <= aim[1] and high >= aim[0] for (low, high), aim in zip(sums, target))
    one, other = parts_of(paper, 2)
    if word == "barred":
        signs, loads = signs_told(one, many), loads_told(other, many)
        return all(beyond(grid, target, signs, loads, row) > 0 for row in grid.rows)
    above, below = loads_told(one, many), loads_told(other, many)
    aim = sum(above[c] * target[c][1] - below[c] * target[c][0] for c in grid.columns)
    ups, downs = (grid.high, grid.low) if word == "split" else (grid.low, grid.high)
    return all(grid.row_sum(above, ups, row) - grid.row_sum(below, downs, row) > aim for row in grid.rows)


def prices(word, parts, paper):
    grid = Grid(parts[0])
    target = stretches(parts[1], len(grid.columns), -10000, 10000)
    costs, number = integers(parts[2], len(grid.rows)), fraction(parts[3])
    need(all(0 <= cost <= 1000 for cost in costs))
    if word == "costs":
        return all(sum(map(lambda share, cost: share * cost, mix, costs)) <= number
                   for mix in corner_mixes(grid, target, paper))
    signs, loads, least = parts_of(paper, 3)
    signs, loads, least = signs_told(signs, len(grid.columns)), loads_told(loads, len(grid.columns)), fraction(least)
    return number <= least and all(costs[row] >= least - beyond(grid, target, signs, loads, row) for row in grid.rows)


def answers(word, parts, paper):
    grid = Grid(parts[0])
    bounds = stretches(parts[1], len(grid.rows), -10000, 10000)
    if word in ("one answer", "some answer"):
        answer = fractions(paper, len(grid.columns))
        ends = [(sum(min(part * low, part * high) for part, low, high in zip(answer, grid.low[row], grid.high[row])),
                 sum(max(part * low, part * high) for part, low, high in zip(answer, grid.low[row], grid.high[row])))
                for row in grid.rows]
        if word == "one answer":
            return all(high <= bound[0] for (_, high), bound in zip(ends, bounds))
        return all(low <= bound[1] for (low, _), bound in zip(ends, bounds))
    if word == "barred answer":
        member, loads = parts_of(paper, 2)
        loads = loads_told(loads, len(grid.rows))
        member = [fractions(row, len(grid.columns)) for row in parts_of(member, len(grid.rows))]
        for row in grid.rows:
            need(all(grid.low[row][c] <= member[row][c] <= grid.high[row][c] for c in grid.columns))
        return all(grid.column_sum(loads, member, c) == 0 for c in grid.columns) and \
            sum(load * low for load, (low, _) in zip(loads, bounds)) < 0
    every = [loads_told(loads, len(grid.rows)) for loads in parts_of(paper, 2 ** len(grid.columns))]
    for signs, loads in zip(every_sign(len(grid.columns)), every):
        numbers = [[grid.end(row, c, -sign) for c, sign in enumerate(signs)] for row in grid.rows]
        need(all(sign * grid.column_sum(loads, numbers, c) >= 0 for c, sign in enumerate(signs)))
        need(sum(load * high for load, (_, high) in zip(loads, bounds)) < 0)
    return True


def schedule_told(times, value):
    numbers = dict(zip(times.points, integers(value, len(times.points))))
    need(numbers[times.points[0]] == 0)
    need(all(low <= numbers[end] - numbers[start] <= high for start, end, (low, high) in times.facts))
    return numbers


def chain_told(times, value):
    """The first point, the last one and the size of a chain with at least one step."""
    steps = []
    for index, sign in [integers(part, 2) for part in parts_of(value)]:
        need(0 <= index < len(times.facts) and sign in (1, -1))
        start, end, (low, high) = times.facts[index]
        steps.append((start, end, high) if sign == 1 else (end, start, -low))
    need(steps and all(one[1] == other[0] for one, other in zip(steps, steps[1:])))
    return steps[0][0], steps[-1][1], sum(size for _, _, size in steps)


def of_times(word, parts, paper):
    times = thing(Times, parts[0])
    if word == "times":
        return bool(schedule_told(times, paper))
    if word == "ring":
        first, last, size = chain_told(times, paper)
        return first == last and size < 0
    point, later, number = one_of(parts[1], list(times.points)), one_of(parts[2], list(times.points)), integer(parts[3])
    if word == "reached":
        numbers = schedule_told(times, paper)
        return numbers[later] - numbers[point] == number
    if parts_of(paper) == ():
        return point == later and number <= 0
    first, last, size = chain_told(times, paper)
    return (first, last) == (later, point) and size <= -number


def pairs_of(way):
    return ["".join(sorted(pair)) for pair in zip(way, way[1:])]


def way_told(web, value):
    need(value.__class__ is str and len(value) >= 2 and len(set(value)) == len(value))
    need(all(pair in dict(web.ties) for pair in pairs_of(value)))
    return value


def tree_told(web, value):
    pairs = [one_of(pair, dict(web.ties)) for pair in parts_of(value, len(web.places) - 1)]
    need(pairs == sorted(set(pairs)) and joined(web, pairs))
    return value


def joined(web, pairs):
    reached = {web.places[0]}
    for _ in web.places:
        reached |= {letter for pair in pairs for letter in pair if reached & set(pair)}
    return len(reached) == len(web.places)


def cut_told(web, place, other, value):
    need(value.__class__ is str and value == "".join(sorted(set(value))) and set(value) <= set(web.places))
    need(place in value and other not in value)
    return value


def ties_out(web, lot):
    return [pair for pair, _ in web.ties if (pair[0] in lot) != (pair[1] in lot)]


def corner(places, lot, word):
    """At the own corner for "possible" and "no", at the far one for "sure" and "unsure"."""
    inside = 0 if word.split()[0] in ("possible", "no") else 1
    return {item: stretch[inside if item in lot else 1 - inside] for item, stretch in places.items()}


def is_best(word):
    return word.split()[0] in ("possible", "sure")


def cost(lot, numbers):
    return sum(numbers[item] for item in lot)


def ways(word, parts, paper):
    web = thing(Web, parts[0])
    way = way_told(web, parts[1])
    numbers = corner(dict(web.ties), pairs_of(way), word)
    if is_best(word):
        heights = dict(zip(web.places, integers(paper, len(web.places))))
        need(all(abs(heights[pair[0]] - heights[pair[1]]) <= number for pair, number in numbers.items()))
        return heights[way[-1]] - heights[way[0]] == cost(pairs_of(way), numbers)
    other = way_told(web, paper)
    return (other[0], other[-1]) == (way[0], way[-1]) and cost(pairs_of(other), numbers) < cost(pairs_of(way), numbers)


def pairing_told(table, value):
    names = [one_of(name, table.names) for name in parts_of(value, len(table.columns))]
    need(len(set(names)) == len(names))
    return list(zip(names, table.columns))


def pairings(word, parts, paper):
    table = thing(Table, parts[0])
    lot = pairing_told(table, parts[1])
    numbers = corner({(name, column): table.stretch(name, column) for name in table.names for column in table.columns},
                     lot, word)
    if not is_best(word):
        return cost(pairing_told(table, paper), numbers) < cost(lot, numbers)
    rows, columns = parts_of(paper, 2)
    rows = dict(zip(table.names, integers(rows, len(table.names))))
    columns = dict(zip(table.columns, integers(columns, len(table.columns))))
    need(all(price >= 0 and (price == 0 or name in dict(lot)) for name, price in rows.items()))
    need(all(columns[column] - rows[name] <= number for (name, column), number in numbers.items()))
    return all(columns[column] - rows[name] == numbers[name, column] for name, column in lot)


def trees(word, parts, paper):
    web = thing(Web, parts[0])
    tree = tree_told(web, parts[1])
    numbers = corner(dict(web.ties), tree, word)
    gains = [(into, out) for into in numbers for out in tree
             if into not in tree and numbers[into] < numbers[out] and joined(web, [into, *(set(tree) - {out})])]
    if is_best(word):
        return parts_of(paper) == () and gains == []
    into, out = [one_of(pair, dict(web.ties)) for pair in parts_of(paper, 2)]
    return (into, out) in gains


def came(web, amounts, place):
    return sum(((pair[1] == place) - (pair[0] == place)) * amount for (pair, _), amount in zip(web.ties, amounts))


def cuts(word, parts, paper):
    web = thing(Web, parts[0])
    place, other = one_of(parts[1], list(web.places)), one_of(parts[2], list(web.places))
    lot = ties_out(web, cut_told(web, place, other, parts[3]))
    numbers = corner(dict(web.ties), lot, word)
    if not is_best(word):
        return cost(ties_out(web, cut_told(web, place, other, paper)), numbers) < cost(lot, numbers)
    amounts = integers(paper, len(web))
    need(all(abs(amount) <= number for amount, number in zip(amounts, numbers.values())))
    need(all(came(web, amounts, letter) == 0 for letter in web.places if letter not in (place, other)))
    return -came(web, amounts, place) == cost(lot, numbers)


def served(word, parts, paper):
    web = thing(Web, parts[0])
    place = one_of(parts[1], list(web.places))
    wishes = dict(zip(web.places, stretches(parts[2], len(web.places), 0, 1000)))
    need(wishes[place] == (0, 0))
    if word == "served":
        amounts = integers(paper, len(web))
        need(all(abs(amount) <= low for amount, (_, (low, _)) in zip(amounts, web.ties)))
        return all(came(web, amounts, letter) == high for letter, (_, high) in wishes.items() if letter != place)
    need(paper.__class__ is str and paper and paper == "".join(sorted(set(paper))) and set(paper) <= set(web.places))
    need(place not in paper)
    return sum(wishes[letter][1] for letter in paper) > sum(dict(web.ties)[pair][0] for pair in ties_out(web, paper))


def seats(word, parts, paper):
    counts = thing(Counts, parts[0])
    divisors = range(1, 40) if one_of(parts[1], ("whole", "odd")) == "whole" else range(1, 80, 2)
    seating = integers(parts[2], len(counts))
    need(min(seating) >= 0 and 1 <= sum(seating) <= 12)
    lasts = {name: Fraction(high, divisors[many - 1]) for (name, (_, high)), many in zip(counts.parts, seating) if many}
    nexts = {name: Fraction(low, divisors[many]) for (name, (low, _)), many in zip(counts.parts, seating)}
    if word == "can come":
        price = fraction(paper)
        return price >= 0 and max(nexts.values()) <= price <= min(lasts.values())
    one, other = [one_of(name, counts.names) for name in parts_of(paper, 2)]
    return one in lasts and lasts[one] < nexts[other]


CLAIMS = {
    worths: (1, "safe unsafe hoped unhoped".split()),
    mixes: (1, "one split each barred some none".split()),
    prices: (3, "costs asks".split()),
    answers: (1, ["one answer", "barred answer", "some answer", "no answer"]),
    of_times: (0, ["times", "ring"]),
    ways: (1, [f"{mark} way" for mark in ("possible", "no", "sure", "unsure")]),
    pairings: (1, [f"{mark} pairing" for mark in ("possible", "no", "sure", "unsure")]),
    trees: (1, [f"{mark} tree" for mark in ("possible", "no", "sure", "unsure")]),
    cuts: (3, [f"{mark} cut" for mark in ("possible", "no", "sure", "unsure")]),
    served: (2, ["served", "not served"]),
    seats: (2, ["can come", "cannot come"]),
}
WORDS = {word: (many, action) for action, (many, words) in CLAIMS.items() for word in words}
WORDS.update({word: (3, of_times) for word in ("lead", "reached")})


def own_accepts(claim, paper):
    try:
        need(claim.__class__ is tuple and len(claim) > 1)
        word = one_of(claim[0], WORDS)
        many, action = WORDS[word]
        need(len(claim) == many + 2)
        return bool(action(word, claim[1:], paper))
    except No:
        return False
