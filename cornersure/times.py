"""Times: points and facts about how far one is behind another one, their schedules, leads and chains."""

from itertools import combinations

from cornersure.chains import Chains
from cornersure.errors import (
    InvalidFacts,
    InvalidNumber,
    InvalidPoint,
    InvalidPoints,
    InvalidText,
    NotTimes,
    NoTimes,
    TooFew,
    TooMany,
)
from cornersure.kinds import are_letters, is_integer, is_one_of, is_stretch, is_tuple_of, row_told, stretches_text
from cornersure.limits import MOST_COLUMNS, MOST_FACTS, MOST_LENGTH, MOST_POINTS, MOST_ROWS
from cornersure.tables import Table

_LEAST_POINTS = 2
_MOST_DIFFERENCE = 100000
_ROWS_OF_A_FACT = 2


class Times:
    """Points and facts (FROM, TO, STRETCH); they never change."""

    def __init__(self, points, facts):
        if not are_letters(points, _LEAST_POINTS, MOST_POINTS):
            raise InvalidPoints(points)
        check_facts(points, facts)
        self._points = points
        self._facts = facts

    @classmethod
    def told(cls, text):
        """The times whose text this is."""
        return times_told(text)

    @property
    def points(self):
        """The points, an ascending string."""
        return self._points

    @property
    def facts(self):
        """The triples (FROM, TO, STRETCH)."""
        return self._facts

    def __str__(self):
        return "\n".join([self._points, *[_fact_text(fact) for fact in self._facts]])

    def __len__(self):
        return len(self._facts)

    def __bool__(self):
        # Without it, times without facts would be false, as their length is 0.
        return True

    def __eq__(self, other):
        return isinstance(other, Times) and self._points == other._points and self._facts == other._facts

    def more(self, fact):
        """The times with a fact more, behind the others."""
        return Times(self._points, (*self._facts, fact))

    def without(self, index):
        """The times without the fact of this index."""
        if not is_integer(index) or not 0 <= index < len(self._facts):
            raise InvalidNumber(index)
        return Times(self._points, (*self._facts[:index], *self._facts[index + 1:]))


def times_told(text):
    """The times whose text this is; raise InvalidText for what is no such text."""
    if not isinstance(text, str):
        raise InvalidText(text)
    lines = text.split("\n")
    facts = tuple([row_told(line, 2) for line in lines[1:]])
    try:
        return Times(lines[0], facts)
    except (InvalidPoints, InvalidFacts):
        raise InvalidText(text) from None


def check_facts(points, facts):
    """Raise InvalidFacts for what are no facts over these points."""
    if not isinstance(facts, tuple):
        raise InvalidFacts(None)
    for index, fact in enumerate(facts):
        if index == MOST_FACTS or not _is_fact(tuple(points), fact):
            raise InvalidFacts(index)


def check_times(times):
    """Raise NotTimes for what are no times."""
    if not isinstance(times, Times):
        raise NotTimes(times)


def check_point(times, point):
    """Raise InvalidPoint for what is no point of the times."""
    if not is_one_of(point, tuple(times.points)):
        raise InvalidPoint(point)


def steps_of(times):
    """The steps of all facts, with (INDEX, 1) and (INDEX, -1) as labels."""
    steps = []
    for index, (start, end, (low, high)) in enumerate(times.facts):
        steps.append((start, end, high, (index, 1)))
        steps.append((end, start, -low, (index, -1)))
    return steps


def schedule(times):
    """Any schedule; None if there is none."""
    check_times(times)
    return _schedule_by(times, steps_of(times))


def ring(times):
    """Any ring; None if there is a schedule."""
    check_times(times)
    chains = _chains_from_all(times, steps_of(times))
    return chains.ring() if chains.has_ring() else None


def lead(times, point, later):
    """The pair of the least and the greatest number by which `later` is above `point`, None for no such end."""
    _check_two_points(times, point, later)
    steps = _steps_without_ring(times)
    down = _least_size(times, steps, later, point)
    return None if down is None else -down, _least_size(times, steps, point, later)


def chain(times, point, later):
    """Any chain of the least size from the one point to the other; None if there is none."""
    _check_two_points(times, point, later)
    chains = Chains(_steps_without_ring(times), {point: 0}, len(times.points))
    return chains.chain(point, later) if later in chains.sizes else None


def schedule_with(times, point, later, number):
    """Any schedule in which `later` is above `point` by just this number; None if there is none."""
    _check_two_points(times, point, later)
    if not is_integer(number) or not -_MOST_DIFFERENCE <= number <= _MOST_DIFFERENCE:
        raise InvalidNumber(number)
    just = [(point, later, number, None), (later, point, -number, None)]
    return _schedule_by(times, steps_of(times) + just)


def least_strikes(times):
    """All least lots of indexes of facts without which there is a schedule, by length, then ascending."""
    check_times(times)
    steps, found, free = steps_of(times), [], {}
    for many in range(len(times) + 1):
        for lot in combinations(range(len(times)), many):
            free[lot] = any([free[lot[:at] + lot[at + 1:]] for at in range(many)])
            if not free[lot] and not _chains_from_all(times, _without(steps, lot)).has_ring():
                free[lot] = True
                found.append(lot)
    return tuple(found)


def idle_facts(times):
    """The indexes of all facts without which, each by itself, all schedules are the same."""
    check_times(times)
    steps = _steps_without_ring(times)
    return tuple([index for index in range(len(times)) if _is_idle(times, steps, index)])


def as_system(times):
    """The pair of a table and bounds whose answers are the schedules, from any number of the first point on."""
    check_times(times)
    if len(times.points) > MOST_COLUMNS:
        raise TooMany(len(times.points))
    if len(times) * _ROWS_OF_A_FACT > MOST_ROWS:
        raise TooMany(len(times))
    if len(times) == 0:
        raise TooFew(0)
    rows, bounds = [], []
    for letter, (start, end, (low, high)) in zip("abcd", times.facts):
        rows.append(("u" + letter, _difference_row(times, start, end)))
        rows.append(("d" + letter, _difference_row(times, end, start)))
        bounds += [(high, high), (-low, -low)]
    return Table(tuple(times.points), tuple(rows)), tuple(bounds)


def _is_fact(points, value):
    if not is_tuple_of(value, 3):
        return False
    start, end, stretch = value
    if not is_one_of(start, points) or not is_one_of(end, points):
        return False
    return start != end and is_stretch(stretch, -MOST_LENGTH, MOST_LENGTH)


def _fact_text(fact):
    start, end, stretch = fact
    return f"{start} {end} {stretches_text([stretch])}"


def _check_two_points(times, point, later):
    check_times(times)
    check_point(times, point)
    check_point(times, later)


def _chains_from_all(times, steps):
    """Chains that may begin at each point: so they find each ring."""
    return Chains(steps, {point: 0 for point in times.points}, len(times.points))


def _schedule_by(times, steps):
    """Numbers whose differences are at most the sizes of the steps, 0 for the first point; None if there are none."""
    chains = _chains_from_all(times, steps)
    if chains.has_ring():
        return None
    return tuple([chains.sizes[point] - chains.sizes[times.points[0]] for point in times.points])


def _steps_without_ring(times):
    """The steps of times with a schedule; raise NoTimes if there is none."""
    steps = steps_of(times)
    if _chains_from_all(times, steps).has_ring():
        raise NoTimes()
    return steps


def _least_size(times, steps, point, later):
    """The least size of a chain from the one point to the other, if there is no ring; None without any chain."""
    return Chains(steps, {point: 0}, len(times.points)).sizes.get(later)


def _without(steps, lot):
    return [step for step in steps if step[3][0] not in lot]


def _is_idle(times, steps, index):
    """Whether the other facts keep within this one."""
    start, end, (low, high) = times.facts[index]
    others = _without(steps, (index,))
    up, down = _least_size(times, others, start, end), _least_size(times, others, end, start)
    return up is not None and down is not None and up <= high and down <= -low


def _difference_row(times, start, end):
    signs = {start: -1, end: 1}
    return tuple([(signs.get(point, 0), signs.get(point, 0)) for point in times.points])
