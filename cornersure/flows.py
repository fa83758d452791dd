"""Flows over the ties of a web and the cuts that bound them: their room, which are best, and what can be served."""

from cornersure.choices import Choice
from cornersure.currents import greatest_flow
from cornersure.errors import InvalidCut, InvalidWishes
from cornersure.kinds import is_one_of, is_tuple_of
from cornersure.webs import (
    check_place,
    check_two_places,
    check_web,
    check_web_member,
    ends,
    is_length,
    number_of,
    pairs_of,
)


def check_cut(web, place, other, cut):
    """Raise InvalidCut for what is no cut of the web between these two places."""
    if not is_one_of(cut, _cuts_between(web, place, other)):
        raise InvalidCut(cut)


def check_wishes(web, place, wishes):
    """Raise InvalidWishes for what are no wishes for this source."""
    if not is_tuple_of(wishes, len(web.places)):
        raise InvalidWishes(None)
    for index, wish in enumerate(wishes):
        if not is_length(wish) or web.places[index] == place and wish != (0, 0):
            raise InvalidWishes(index)


def all_cuts(web, place, other):
    """All cuts between the two places, ascending."""
    _check_ends(web, place, other)
    return tuple(_cuts_between(web, place, other))


def cut_room(web, cut, member):
    """The room of the ties out of these places in a member, a fraction."""
    check_web(web)
    if not is_one_of(cut, lots_of(web.places)) or cut == web.places:
        raise InvalidCut(cut)
    check_web_member(web, member)
    return number_of(web, pairs_out(web, cut), member)


def most(web, place, other):
    """The pair of the greatest flows at all-LOW and at all-HIGH."""
    # They are as great as the room of the best cuts.
    return _choice_between(web, place, other).least_costs()


def flow(web, place, other, low):
    """Any greatest flow in the member that `ends` tells, in integers."""
    _check_ends(web, place, other)
    return flow_with(web, place, other, [room for room, _ in ends(web, low)])


def is_possible_cut(web, place, other, cut):
    """Whether the cut is best in some member."""
    return cut_choice(web, place, other, cut).is_possible(cut)


def is_sure_cut(web, place, other, cut):
    """Whether the cut is best in all members."""
    return cut_choice(web, place, other, cut).is_sure(cut)


def cut_loss(web, place, other, cut):
    """The worst loss of the cut."""
    return cut_choice(web, place, other, cut).worst_loss(cut)


def possible_cuts(web, place, other):
    """All possible cuts between the two places, ascending."""
    return _choice_between(web, place, other).possible_lots()


def calm_cuts(web, place, other):
    """All calm cuts between the two places, ascending."""
    return _choice_between(web, place, other).calm_lots()


def possible_cut_ties(web, place, other):
    """The PAIRs of the ties that some possible cut between the two places has, ascending."""
    return _choice_between(web, place, other).possible_items()


def sure_cut_ties(web, place, other):
    """The PAIRs of the ties that all possible cuts between the two places have, ascending."""
    return _choice_between(web, place, other).sure_items()


def are_served(web, place, wishes):
    """Whether all members of the web and of the wishes are served."""
    return tight_lot(web, place, wishes) is None


def can_be_served(web, place, wishes):
    """Whether some member of the web and of the wishes is served."""
    _check_wished(web, place, wishes)
    lows, highs = [low for low, _ in wishes], {pair: high for pair, (_, high) in web.ties}
    return _lot_beyond(web, place, lows, highs) is None


def tight_lot(web, place, wishes):
    """Any places whose wishes' HIGHs are more than their ties' LOWs, an ascending string; None if all are served."""
    _check_wished(web, place, wishes)
    highs, lows = [high for _, high in wishes], {pair: low for pair, (low, _) in web.ties}
    return _lot_beyond(web, place, highs, lows)


def flow_with(web, place, other, rooms):
    """Any greatest flow with these rooms of the ties."""
    ties = [(pair[0], pair[1], room) for pair, room in zip(pairs_of(web), rooms)]
    return tuple(greatest_flow(ties, place, other))


def serving_flow(web, rooms, place, amounts):
    """Any flow out of a place with these rooms of the ties that brings all places these amounts, if there is one."""
    ties = [(pair[0], pair[1], room) for pair, room in zip(pairs_of(web), rooms)]
    # A further place, tied to each other one with its amount as room, gets what all of them get.
    ties += [(letter, "", amount) for letter, amount in zip(web.places, amounts)]
    return tuple(greatest_flow(ties, place, "")[:len(web)])


def cut_choice(web, place, other, cut):
    """The choice between all cuts between the two places, this one among them."""
    _check_ends(web, place, other)
    check_cut(web, place, other, cut)
    return _choice_between(web, place, other)


def lots_of(places):
    """All ascending strings of one or more of these places."""
    found = [""]
    for place in places:
        found = found + [lot + place for lot in found]
    return found[1:]


def pairs_out(web, lot):
    """The PAIRs of the ties with one of both places in this lot of places."""
    return [pair for pair in pairs_of(web) if (pair[0] in lot) != (pair[1] in lot)]


def _check_ends(web, place, other):
    check_web(web)
    check_two_places(web, place, other)


def _check_wished(web, place, wishes):
    check_web(web)
    check_place(web, place)
    check_wishes(web, place, wishes)


def _cuts_between(web, place, other):
    return sorted([lot for lot in lots_of(web.places) if place in lot and other not in lot])


def _choice_between(web, place, other):
    """The choice between all cuts between the two places."""
    _check_ends(web, place, other)
    return Choice(dict(web.ties), {cut: pairs_out(web, cut) for cut in _cuts_between(web, place, other)})


def _lot_beyond(web, place, wished, rooms):
    """The first places without the source that wish for more than the ties to them have room for; None if none do."""
    for lot in [letters for letters in lots_of(web.places) if place not in letters]:
        wish = sum([number for letter, number in zip(web.places, wished) if letter in lot])
        if wish > sum([rooms[pair] for pair in pairs_out(web, lot)]):
            return lot
    return None
