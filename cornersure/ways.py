"""Ways from one place of a web to another one: their costs, and which are best in some, in all members."""

from cornersure.chains import Chains
from cornersure.choices import FAR, OWN, Choice
from cornersure.errors import InvalidWay
from cornersure.webs import check_two_places, check_web, check_web_member, number_of, pair_of, pairs_of


def check_way(web, way):
    """Raise InvalidWay for what is no way of the web."""
    if not _is_way(web, way):
        raise InvalidWay(way)


def all_ways(web, place, other):
    """All ways from the one place to the other, ascending."""
    _check_ends(web, place, other)
    return tuple(_ways_between(web, place, other))


def way_cost(web, way, member):
    """The cost of a way in a member, a fraction."""
    check_web(web)
    check_way(web, way)
    check_web_member(web, member)
    return number_of(web, pairs_of_way(way), member)


def least_way_costs(web, place, other):
    """The pair of the least costs at all-LOW and at all-HIGH."""
    return _choice_between(web, place, other).least_costs()


def is_possible_way(web, way):
    """Whether the way is best in some member among those with its ends."""
    return way_choice(web, way).is_possible(way)


def is_sure_way(web, way):
    """Whether the way is best in all members among those with its ends."""
    return way_choice(web, way).is_sure(way)


def way_loss(web, way):
    """The worst loss of the way."""
    return way_choice(web, way).worst_loss(way)


def possible_ways(web, place, other):
    """All possible ways from the one place to the other, ascending."""
    return _choice_between(web, place, other).possible_lots()


def calm_ways(web, place, other):
    """All calm ways from the one place to the other, ascending."""
    return _choice_between(web, place, other).calm_lots()


def possible_way_ties(web, place, other):
    """The PAIRs of the ties that some possible way from the one place to the other has, ascending."""
    return _choice_between(web, place, other).possible_items()


def sure_way_ties(web, place, other):
    """The PAIRs of the ties that all possible ways from the one place to the other have, ascending."""
    return _choice_between(web, place, other).sure_items()


def heights(web, way):
    """Any heights, integers, that show the way best at its own corner; None if it is not possible."""
    choice = way_choice(web, way)
    return heights_at(web, way, choice.corner(way, OWN)) if choice.is_possible(way) else None


def better_way(web, way):
    """Any way with the same ends that costs less at the far corner of this one; None if it is sure."""
    choice = way_choice(web, way)
    return choice.better(way, choice.corner(way, FAR))


def heights_at(web, way, numbers):
    """The costs with these numbers of best ways from the first place of this one: heights that show it best."""
    steps = [(pair[0], pair[1], numbers[pair], None) for pair in numbers]
    steps += [(pair[1], pair[0], numbers[pair], None) for pair in numbers]
    sizes = Chains(steps, {way[0]: 0}, len(web.places)).sizes
    return tuple([sizes[place] for place in web.places])


def way_choice(web, way):
    """The choice between all ways with the ends of this one."""
    check_web(web)
    check_way(web, way)
    return _choice_between(web, way[0], way[-1])


def pairs_of_way(way):
    """The PAIRs of the ties of a way."""
    return tuple([pair_of(place, other) for place, other in zip(way, way[1:])])


def _is_way(web, value):
    if not isinstance(value, str) or len(value) < 2 or len(set(value)) < len(value):
        return False
    pairs = pairs_of(web)
    return all([pair in pairs for pair in pairs_of_way(value)])


def _check_ends(web, place, other):
    check_web(web)
    check_two_places(web, place, other)


def _ways_between(web, place, other):
    pairs, done, begun = pairs_of(web), [], [place]
    while begun:
        begun = [way + step for way in begun for step in web.places
                 if step not in way and pair_of(way[-1], step) in pairs]
        done += [way for way in begun if way[-1] == other]
        begun = [way for way in begun if way[-1] != other]
    return sorted(done)


def _choice_between(web, place, other):
    """The choice between all ways from the one place to the other."""
    _check_ends(web, place, other)
    return Choice(dict(web.ties), {way: pairs_of_way(way) for way in _ways_between(web, place, other)})
