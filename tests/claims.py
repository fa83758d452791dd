"""Claims of all words with their papers, drawn from a source of numbers, and values that are nearly such."""

from cornersure import certificates
from cornersure.pairings import all_pairings
from cornersure.trees import all_trees
from cornersure.ways import all_ways
from tests.drawn import any_counts, any_web, length, small_stretches, small_table, small_times
from tests.test_flows import own_cuts
from tests.test_seats import any_seating

# What each function tells: that something is so, or that it is not.
OPPOSITES = {
    "one": "split", "each": "barred", "some": "none", "one answer": "barred answer", "some answer": "no answer",
    "times": "ring", "served": "not served", "can come": "cannot come",
}
for _field in ("way", "pairing", "tree", "cut"):
    OPPOSITES[f"possible {_field}"] = f"no {_field}"
    OPPOSITES[f"sure {_field}"] = f"unsure {_field}"
OPPOSITES.update({other: word for word, other in list(OPPOSITES.items())})


def of_tables(source):
    """Pairs of a function and its arguments."""
    table = small_table(source, source.randint(1, 3), source.randint(1, 4), source.choice((1, 4, 300)))
    target = source.choice((small_stretches(source, len(table.columns)), wide_target(source, table)))
    bounds = small_stretches(source, len(table), source.choice((1, 4, 300)))
    prices = tuple(source.randint(0, 9) for _ in table.names)
    found = [(action, (table,)) for action in (certificates.certify_safe, certificates.certify_unsafe,
                                               certificates.certify_hoped, certificates.certify_unhoped)]
    found += [(action, (table, target)) for action in (certificates.certify_one, certificates.certify_each,
                                                       certificates.certify_some)]
    found += [(action, (table, bounds)) for action in (certificates.certify_answer, certificates.certify_some_answer)]
    found += [(action, (table, target, prices)) for action in (certificates.certify_costs, certificates.certify_asks)]
    if len(table) >= len(table.columns):
        pairing = source.choice(all_pairings(table))
        found += [(action, (table, pairing)) for action in (certificates.certify_pairing, certificates.certify_sure_pairing)]
    return found


def wide_target(source, table):
    """A target that many mixes hit."""
    columns = list(zip(*[row for _, row in table.rows]))
    aims = [(min(low for low, _ in column) + source.randint(0, 2), max(high for _, high in column)) for column in columns]
    return tuple((min(aim), max(aim)) for aim in aims)


def of_times(source):
    times = small_times(source, source.randint(2, 4), source.randint(0, 6))
    point, later = source.choice(times.points), source.choice(times.points)
    return [(certificates.certify_times, (times,)), (certificates.certify_lead, (times, point, later)),
            (certificates.certify_reached, (times, point, later))]


def of_webs(source):
    web = any_web(source, source.choice((2, 9)), source.randint(2, 5))
    place, other = source.sample(web.places, 2)
    way, tree = source.choice(all_ways(web, place, other)), source.choice(all_trees(web))
    cut = source.choice(own_cuts(web, place, other))
    wishes = tuple((0, 0) if letter == place else length(source, source.choice((1, 4))) for letter in web.places)
    found = [(action, (web, way)) for action in (certificates.certify_way, certificates.certify_sure_way)]
    found += [(action, (web, tree)) for action in (certificates.certify_tree, certificates.certify_sure_tree)]
    found += [(action, (web, place, other, cut)) for action in (certificates.certify_cut, certificates.certify_sure_cut)]
    return [*found, (certificates.certify_served, (web, place, wishes))]


def of_counts(source):
    counts = any_counts(source, source.choice((4, 30)))
    return [(certificates.certify_seating, (counts, word, any_seating(source, len(counts), 6))) for word in ("whole", "odd")]


def drawn_calls(source, many):
    """Calls of all functions of cornersure.certificates, each with right arguments."""
    for _ in range(many):
        for drawn in (of_tables, of_times, of_webs, of_counts):
            yield from drawn(source)


def nearly(value):
    """Values that differ from this one in one part: a number otherwise, a tuple with more, fewer or other parts."""
    yield from other_values(value)
    if value.__class__ is tuple:
        for at, part in enumerate(value):
            for other in nearly(part):
                yield (*value[:at], other, *value[at + 1:])


def other_values(value):
    yield from (None, [value], (value,), {"a": value})
    if value.__class__ is int:
        yield from (value + 1, value - 1, -value, value * 2, str(value), (value, 1), True, False, 10 ** 60)
    elif value.__class__ is str:
        yield from (value[:-1], value + value[-1:], value + " ", value[::-1], value.upper(), value.encode(), tuple(value), "")
    elif value.__class__ is tuple:
        yield from (list(value), value[:-1], value[1:], value[::-1], (*value, *value[-1:]), (), str(value))
        yield dict(enumerate(value))
        if [part.__class__ for part in value] == [int, int]:
            yield from ((value[0] * 2, value[1] * 2), (value[0] * 9 + 1, value[1] * 9), (value[0] * 9 - 1, value[1] * 9))
