"""Claims that are so, each with a paper that the checker accepts."""

from cornersure.choices import FAR, OWN, corner_of
from cornersure.flows import cut_choice, flow_with, serving_flow, tight_lot
from cornersure.games import best_mixes, keeping_mix, safe_mix, solved_game, worths
from cornersure.mixes import (
    barring,
    corner_mix,
    corner_payoffs,
    dearest_signs,
    possible_mix,
    possible_payoffs,
    price_program,
    sure_mix,
    sure_payoffs,
    worst_price,
)
from cornersure.pairings import pairing_choice, prices_at
from cornersure.ratios import all_over
from cornersure.seats import barring_names, price
from cornersure.systems import barring_member, barring_weights, possible_answer, sure_answer
from cornersure.tables import all_high, all_low, all_signs
from cornersure.times import chain, lead, ring, schedule, schedule_with
from cornersure.trees import check_tree, exchange_at
from cornersure.ways import heights_at, way_choice
from cornersure.webs import check_web


def certify_safe(table):
    """That a mix of rows holds the worth of all-LOW in all members."""
    mix = safe_mix(table)
    return ("safe", str(table), worths(table)[0]), mix


def certify_unsafe(table):
    """That no mix of rows holds more than the worth of all-LOW in all members."""
    mixes = best_mixes(table, all_low(table))
    return ("unsafe", str(table), worths(table)[0]), mixes[1]


def certify_hoped(table):
    """That some member is worth as much as all-HIGH."""
    mixes = best_mixes(table, all_high(table))
    return ("hoped", str(table), worths(table)[1]), mixes[0]


def certify_unhoped(table):
    """That no member is worth more than all-HIGH."""
    mix = keeping_mix(table)
    return ("unhoped", str(table), worths(table)[1]), mix


def certify_one(table, target):
    """That there is a sure mix, or that there is none."""
    mix = sure_mix(table, target)
    if mix is not None:
        return ("one", str(table), target), mix
    return ("split", str(table), target), _loads_of(sure_payoffs(table, target))


def certify_each(table, target):
    """That the table is served, or that it is not."""
    barred = barring(table, target)
    if barred is not None:
        return ("barred", str(table), target), barred
    return ("each", str(table), target), tuple([corner_mix(table, target, signs) for signs in all_signs(table)])


def certify_some(table, target):
    """That there is a possible mix, or that there is none."""
    mix = possible_mix(table, target)
    if mix is not None:
        return ("some", str(table), target), mix
    return ("none", str(table), target), _loads_of(possible_payoffs(table, target))


def certify_costs(table, target, prices):
    """That each member has a mix that hits at the worst price at most."""
    number = worst_price(table, target, prices)
    games = [corner_payoffs(table, target, signs) for signs in all_signs(table)]
    mixes = tuple([_cheapest_mix(payoffs, prices) for payoffs in games])
    return ("costs", str(table), target, prices, number), mixes


def certify_asks(table, target, prices):
    """That in some member each mix that hits costs at least the worst price."""
    signs = dearest_signs(table, target, prices)
    program = price_program(corner_payoffs(table, target, signs), prices)
    # The last load is that of the sum of the shares: so it is the least price.
    *loads, number = all_over(program.load_tops(), program.bottom)
    return ("asks", str(table), target, prices, number), (signs, tuple(loads), number)


def certify_answer(table, bounds):
    """That there is a sure answer, or that some member has none."""
    answer = sure_answer(table, bounds)
    if answer is not None:
        return ("one answer", str(table), bounds), answer
    return ("barred answer", str(table), bounds), barring_member(table, bounds)


def certify_some_answer(table, bounds):
    """That there is a possible answer, or that there is none."""
    answer = possible_answer(table, bounds)
    if answer is not None:
        return ("some answer", str(table), bounds), answer
    return ("no answer", str(table), bounds), barring_weights(table, bounds)


def certify_times(times):
    """That there is a schedule, or that there is none."""
    found = schedule(times)
    if found is not None:
        return ("times", str(times)), found
    return ("ring", str(times)), ring(times)


def certify_lead(times, point, later):
    """That in all schedules the second point is above the first one by the least number; None without such a number."""
    number = lead(times, point, later)[0]
    if number is None:
        return None
    return ("lead", str(times), point, later, number), chain(times, later, point)


def certify_reached(times, point, later):
    """That in some schedule the second point is above the first one by just this number; None without such a number."""
    number = lead(times, point, later)[0]
    if number is None:
        return None
    return ("reached", str(times), point, later, number), schedule_with(times, point, later, number)


def certify_way(web, way):
    """That the way is possible, or that it is not."""
    return _way_certificate(web, way, OWN)


def certify_sure_way(web, way):
    """That the way is sure, or that it is not."""
    return _way_certificate(web, way, FAR)


def certify_pairing(table, pairing):
    """That the pairing is possible, or that it is not."""
    return _pairing_certificate(table, pairing, OWN)


def certify_sure_pairing(table, pairing):
    """That the pairing is sure, or that it is not."""
    return _pairing_certificate(table, pairing, FAR)


def certify_tree(web, tree):
    """That the tree is possible, or that it is not."""
    return _tree_certificate(web, tree, OWN)


def certify_sure_tree(web, tree):
    """That the tree is sure, or that it is not."""
    return _tree_certificate(web, tree, FAR)


def certify_cut(web, place, other, cut):
    """That the cut is possible, or that it is not."""
    return _cut_certificate(web, (place, other, cut), OWN)


def certify_sure_cut(web, place, other, cut):
    """That the cut is sure, or that it is not."""
    return _cut_certificate(web, (place, other, cut), FAR)


def certify_served(web, place, wishes):
    """That all members are served, or that not all are."""
    lot = tight_lot(web, place, wishes)
    if lot is not None:
        return ("not served", str(web), place, wishes), lot
    lows, highs = [stretch[0] for _, stretch in web.ties], [high for _, high in wishes]
    return ("served", str(web), place, wishes), serving_flow(web, lows, place, highs)


def certify_seating(counts, word, seating):
    """That the seating comes of some member, or that it comes of none."""
    found = price(counts, word, seating)
    if found is not None:
        return ("can come", str(counts), word, seating), found
    return ("cannot come", str(counts), word, seating), barring_names(counts, word, seating)


def _loads_of(payoffs):
    """A mix of columns that allows less than 0, half of it for the HIGHs of the target, half of it for its LOWs."""
    loads = solved_game(payoffs)[1][1]
    half = len(loads) // 2
    return loads[:half], loads[half:]


def _cheapest_mix(payoffs, prices):
    tops = price_program(payoffs, prices).number_tops()
    return all_over(tops, sum(tops))


def _word(kind, end, is_best):
    """The word of a claim about a lot at its own or its far corner."""
    if is_best:
        return f"possible {kind}" if end == OWN else f"sure {kind}"
    return f"no {kind}" if end == OWN else f"unsure {kind}"


def _way_certificate(web, way, end):
    choice = way_choice(web, way)
    numbers = choice.corner(way, end)
    better = choice.better(way, numbers)
    claim = _word("way", end, better is None), str(web), way
    return claim, heights_at(web, way, numbers) if better is None else better


def _pairing_certificate(table, pairing, end):
    choice = pairing_choice(table, pairing)
    numbers = choice.corner(pairing, end)
    better = choice.better(pairing, numbers)
    claim = _word("pairing", end, better is None), str(table), pairing
    return claim, prices_at(table, pairing, numbers) if better is None else better


def _tree_certificate(web, tree, end):
    check_web(web)
    check_tree(web, tree)
    found = exchange_at(web, tree, corner_of(dict(web.ties), tree, end))
    claim = _word("tree", end, found is None), str(web), tree
    return claim, () if found is None else found


def _cut_certificate(web, parts, end):
    place, other, cut = parts
    choice = cut_choice(web, place, other, cut)
    numbers = choice.corner(cut, end)
    better = choice.better(cut, numbers)
    claim = _word("cut", end, better is None), str(web), place, other, cut
    return claim, flow_with(web, place, other, list(numbers.values())) if better is None else better
