"""Webs: places and ties between them, each tie with a stretch, with their members."""

from cornersure.errors import (
    InvalidMember,
    InvalidPlaces,
    InvalidStretch,
    InvalidText,
    InvalidTie,
    InvalidTies,
    NotAWeb,
    NotJoined,
    UnknownPlace,
)
from cornersure.kinds import (
    are_fractions_in,
    are_letters,
    ascends,
    is_one_of,
    is_stretch,
    is_tuple_of,
    row_told,
    stretches_text,
)
from cornersure.limits import MOST_LENGTH, MOST_PLACES, MOST_TIES
from cornersure.ratios import total

_LEAST_PLACES = 2


class Web:
    """Places and ties (PAIR, STRETCH) by which one comes from each place to each other one; it never changes."""

    def __init__(self, places, ties):
        if not are_letters(places, _LEAST_PLACES, MOST_PLACES):
            raise InvalidPlaces(places)
        check_ties(places, ties)
        check_joined(places, ties)
        self._places = places
        self._ties = ties

    @classmethod
    def told(cls, text):
        """The web whose text this is."""
        return web_told(text)

    @property
    def places(self):
        """The places, an ascending string."""
        return self._places

    @property
    def ties(self):
        """The pairs (PAIR, STRETCH), ascending."""
        return self._ties

    @property
    def text(self):
        """The places, then a line for each tie."""
        return "\n".join([self._places, *[f"{pair} {stretches_text([stretch])}" for pair, stretch in self._ties]])

    def __str__(self):
        return str(self.text)

    def __len__(self):
        return len(self._ties)

    def __eq__(self, other):
        return isinstance(other, Web) and self._places == other._places and self._ties == other._ties

    def stretch(self, pair):
        """The stretch of a tie."""
        return self._ties[tie_index(self, pair)][1]

    def changed(self, pair, stretch):
        """The web with another stretch of a tie."""
        index = tie_index(self, pair)
        if not is_length(stretch):
            raise InvalidStretch(stretch)
        return Web(self._places, (*self._ties[:index], (pair, stretch), *self._ties[index + 1:]))

    def without(self, pair):
        """The web without a tie."""
        index = tie_index(self, pair)
        return Web(self._places, (*self._ties[:index], *self._ties[index + 1:]))


def web_told(text):
    """The web whose text this is; raise InvalidText for what is no such text."""
    if not isinstance(text, str):
        raise InvalidText(text)
    lines = text.split("\n")
    ties = tuple([row_told(line, 1) for line in lines[1:]])
    try:
        return Web(lines[0], ties)
    except (InvalidPlaces, InvalidTies, NotJoined):
        raise InvalidText(text) from None


def check_ties(places, ties):
    """Raise InvalidTies for what are no ties over these places, ascending."""
    if not isinstance(ties, tuple):
        raise InvalidTies(None)
    for index, tie in enumerate(ties):
        if index == MOST_TIES or not _is_tie(places, tie) or index > 0 and tie[0] <= ties[index - 1][0]:
            raise InvalidTies(index)


def check_joined(places, ties):
    """Raise NotJoined with the first place to which one does not come from the first one by these ties."""
    reached = places_reached(places, [pair for pair, _ in ties])
    for place in places:
        if place not in reached:
            raise NotJoined(place)


def places_reached(places, pairs):
    """The places to which one comes from the first one by these pairs."""
    reached = [places[0]]
    for _ in places:
        reached += [place for place in places if place not in reached and _is_beside(place, reached, pairs)]
    return reached


def check_web(web):
    """Raise NotAWeb for what is no web."""
    if not isinstance(web, Web):
        raise NotAWeb(web)


def tie_index(web, pair):
    """The index of the tie between these places; raise InvalidTie for what is no PAIR of a tie."""
    pairs = pairs_of(web)
    if not is_one_of(pair, pairs):
        raise InvalidTie(pair)
    return pairs.index(pair)


def pairs_of(web):
    """The PAIRs of all ties, ascending."""
    return [pair for pair, _ in web.ties]


def check_web_member(web, member):
    """Raise InvalidMember for what is no member of the web."""
    if not is_web_member(web, member):
        raise InvalidMember(member)


def number_of(web, pairs, member):
    """The sum of a member's numbers of the ties with these PAIRs, a fraction."""
    return total([number for (pair, _), number in zip(web.ties, member) if pair in pairs])


def check_place(web, place):
    """Raise UnknownPlace for what is no place of the web."""
    if not is_one_of(place, tuple(web.places)):
        raise UnknownPlace(place)


def check_two_places(web, place, other):
    """Raise UnknownPlace for what is no place, and for the same place twice."""
    check_place(web, place)
    if not is_one_of(other, tuple(web.places)) or other == place:
        raise UnknownPlace(other)


def check_low(web, low):
    """Raise InvalidTie for what is no ascending tuple of PAIRs of ties."""
    if not isinstance(low, tuple):
        raise InvalidTie(low)
    for pair in low:
        tie_index(web, pair)
    if not ascends(low):
        raise InvalidTie(low)


def is_web_member(web, value):
    """Whether any value is a member of the web."""
    check_web(web)
    return are_fractions_in([stretch for _, stretch in web.ties], value)


def ends(web, low):
    """The member with LOW for the ties with these PAIRs, and HIGH for all others."""
    check_web(web)
    check_low(web, low)
    return tuple([(least if pair in low else most, 1) for pair, (least, most) in web.ties])


def is_length(value):
    """Whether any value is a stretch as ties have it: of integers from 0 to 1000."""
    return is_stretch(value, 0, MOST_LENGTH)


def pair_of(place, other):
    """The PAIR of two places."""
    return place + other if place < other else other + place


def _is_tie(places, value):
    if not is_tuple_of(value, 2):
        return False
    pair, stretch = value
    if not are_letters(pair, 2, 2) or pair[0] not in places or pair[1] not in places:
        return False
    return is_length(stretch)


def _is_beside(place, reached, pairs):
    return any([pair_of(place, other) in pairs for other in reached])
