"""Seats given by divisors to counts known within stretches: seatings, their prices, and what bars them."""

from cornersure.errors import (
    InvalidCounts,
    InvalidNumber,
    InvalidSeating,
    InvalidText,
    InvalidWord,
    NotCounts,
    UnknownName,
)
from cornersure.kinds import (
    is_integer,
    is_name,
    is_one_of,
    is_stretch,
    is_tuple_of,
    row_told,
    stretches_text,
)
from cornersure.limits import MOST_LENGTH, MOST_NAMES, MOST_SEATS
from cornersure.ratios import greatest, is_below, least, reduced

_LEAST_NAMES = 2
# By how much a divisor of each word is above that ahead of it; the first one is 1.
_STEPS = {"whole": 1, "odd": 2}


class Counts:
    """Names and their counts, each within a stretch; they never change."""

    def __init__(self, parts):
        check_parts(parts)
        self._parts = parts

    @classmethod
    def told(cls, text):
        """The counts whose text this is."""
        return counts_told(text)

    @property
    def parts(self):
        """The pairs (NAME, STRETCH), ascending."""
        return self._parts

    @property
    def names(self):
        """The names."""
        return tuple([name for name, _ in self._parts])

    @property
    def text(self):
        """A line for each name."""
        return "\n".join([f"{name} {stretches_text([stretch])}" for name, stretch in self._parts])

    def __str__(self):
        return str(self.text)

    def __len__(self):
        return len(self._parts)

    def __eq__(self, other):
        return isinstance(other, Counts) and self._parts == other._parts


def counts_told(text):
    """The counts whose text this is; raise InvalidText for what is no such text."""
    if not isinstance(text, str):
        raise InvalidText(text)
    parts = tuple([row_told(line, 1) for line in text.split("\n")])
    try:
        return Counts(parts)
    except InvalidCounts:
        raise InvalidText(text) from None


def check_parts(parts):
    """Raise InvalidCounts for what are no counts."""
    if not isinstance(parts, tuple) or len(parts) < _LEAST_NAMES:
        raise InvalidCounts(None)
    for index, part in enumerate(parts):
        if index == MOST_NAMES or not _is_part(part) or index > 0 and part[0] <= parts[index - 1][0]:
            raise InvalidCounts(index)


def check_counts(counts):
    """Raise NotCounts for what are no counts."""
    if not isinstance(counts, Counts):
        raise NotCounts(counts)


def check_seats(seats):
    """Raise InvalidNumber for what is no number of seats that can be given."""
    if not is_integer(seats) or not 1 <= seats <= MOST_SEATS:
        raise InvalidNumber(seats)


def check_word(word):
    """Raise InvalidWord for what tells no divisors."""
    if not is_one_of(word, list(_STEPS)):
        raise InvalidWord(word)


def check_seating(counts, seating):
    """Raise InvalidSeating for what is no seating of these names."""
    if not is_tuple_of(seating, len(counts)) or not all([is_integer(part) and part >= 0 for part in seating]):
        raise InvalidSeating(seating)
    if not 1 <= sum(seating) <= MOST_SEATS:
        raise InvalidSeating(seating)


def seatings(counts, seats, word):
    """All seatings that come of some member, ascending."""
    check_counts(counts)
    check_seats(seats)
    check_word(word)
    every = _all_seatings(len(counts), seats)
    return tuple([seating for seating in every if _barring_pair(counts, word, seating) is None])


def can_come(counts, word, seating):
    """Whether the seating comes of some member."""
    return barring_names(counts, word, seating) is None


def surely_comes(counts, word, seating):
    """Whether the seating comes of all members."""
    _check_seated(counts, word, seating)
    lasts, nexts = last_worths(counts, word, seating, 0), next_worths(counts, word, seating, 1)
    return not any([is_below(lasts[name], nexts[other]) for name in lasts for other in nexts if name != other])


def price(counts, word, seating):
    """Any price between all next seats' LOWs and all last seats' HIGHs; None if the seating comes of no member."""
    _check_seated(counts, word, seating)
    nexts, lasts = next_worths(counts, word, seating, 0), last_worths(counts, word, seating, 1)
    found = greatest(list(nexts.values()))
    return None if is_below(least(list(lasts.values())), found) else found


def barring_names(counts, word, seating):
    """Any pair of names, the last seat of the first worth less than the next one of the other; None if it can come."""
    _check_seated(counts, word, seating)
    return _barring_pair(counts, word, seating)


def span(counts, seats, word, name):
    """The pair of the least and the greatest number of seats that a name gets."""
    every = seatings(counts, seats, word)
    if not is_one_of(name, counts.names):
        raise UnknownName(name)
    at = counts.names.index(name)
    numbers = [seating[at] for seating in every]
    return min(numbers), max(numbers)


def sure_seats(counts, seats, word):
    """The sum over all names of the least numbers of seats that they get."""
    every = seatings(counts, seats, word)
    return sum([min(numbers) for numbers in zip(*every)])


def last_worths(counts, word, seating, end):
    """For each name with seats the worth of its last one, with LOW for the end 0 and HIGH for 1."""
    parts = list(zip(counts.parts, seating))
    return {name: reduced(stretch[end], _divisor(word, many)) for (name, stretch), many in parts if many > 0}


def next_worths(counts, word, seating, end):
    """For each name the worth of its next seat, with LOW for the end 0 and HIGH for 1."""
    parts = list(zip(counts.parts, seating))
    return {name: reduced(stretch[end], _divisor(word, many + 1)) for (name, stretch), many in parts}


def _is_part(value):
    return is_tuple_of(value, 2) and is_name(value[0]) and is_stretch(value[1], 0, MOST_LENGTH)


def _divisor(word, place):
    return 1 + (place - 1) * _STEPS[word]


def _check_seated(counts, word, seating):
    check_counts(counts)
    check_word(word)
    check_seating(counts, seating)


def _all_seatings(many, seats):
    """All tuples of that many integers from 0 on with this sum, ascending."""
    found = [()]
    for _ in range(many - 1):
        found = [(*begun, part) for begun in found for part in range(seats - sum(begun) + 1)]
    return [(*begun, seats - sum(begun)) for begun in found]


def _barring_pair(counts, word, seating):
    lasts, nexts = last_worths(counts, word, seating, 1), next_worths(counts, word, seating, 0)
    for name in lasts:
        for other in nexts:
            if is_below(lasts[name], nexts[other]):
                return name, other
    return None
