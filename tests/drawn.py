"""Things drawn from a source of numbers: the same ones for the same source."""

import itertools
from fractions import Fraction

from cornersure.errors import NotJoined
from cornersure.seats import Counts
from cornersure.tables import Table
from cornersure.times import Times
from cornersure.webs import Web


def any_table(source):
    """A table of any size."""
    columns = tuple("wxyz"[:source.randint(1, 4)])
    names = "abcdefgh"[:source.randint(1, 8)]
    return Table(columns, tuple((name, tuple(any_stretch(source) for _ in columns)) for name in names))


def any_stretch(source):
    low = source.choice((-10000, -7, -1, 0, 3))
    return low, source.randint(low, 10000) if source.randint(0, 1) else low + source.randint(0, 3)


def small_table(source, columns, rows, most=4):
    """A table of just this size, with small numbers, many of them alike."""
    names = tuple("wxyz"[:columns])
    return Table(names, tuple((name, small_stretches(source, columns, most)) for name in "abcdefgh"[:rows]))


def small_stretches(source, many, most=4):
    return tuple(small_stretch(source, most) for _ in range(many))


def small_stretch(source, most=4):
    low = source.randint(-most, most)
    return low, low + source.choice((0, 0, 1, 2, 3))


def any_fraction(source, stretch):
    low, high = stretch
    return as_pair(Fraction(low) + (high - low) * Fraction(source.randint(0, 12), 12))


def any_member(source, table):
    return tuple(tuple(any_fraction(source, stretch) for stretch in row) for _, row in table.rows)


def any_mix(source, many):
    parts = [source.choice((0, 0, 1, 2, 5)) for _ in range(many)]
    parts[source.randrange(many)] += 1
    return tuple(as_pair(Fraction(part, sum(parts))) for part in parts)


def any_weights(source, many):
    return tuple(source.choice((0, 1, -1, 2, -3, 1000, -1000, source.randint(-1000, 1000))) for _ in range(many))


def greatest_tables(source):
    """Tables of four columns and eight rows with numbers at the bounds."""
    ends = ((-10000, 10000), (-10000, -10000), (10000, 10000), (-9999, 9998), (-1, 10000))
    tables = []
    for choices in (ends[:1], ends[1:3], ends):
        rows = tuple((name, tuple(source.choice(choices) for _ in range(4))) for name in "abcdefgh")
        tables.append(Table(("w", "x", "y", "z"), rows))
    rows = []
    for name in "abcdefgh":
        stretches = []
        for _ in range(4):
            low = source.randint(-10000, 10000)
            stretches.append((low, source.randint(low, 10000)))
        rows.append((name, tuple(stretches)))
    return [*tables, Table(("w", "x", "y", "z"), tuple(rows))]


def as_pair(number):
    """A number of Python's as a fraction of the package."""
    number = Fraction(number)
    return number.numerator, number.denominator


def as_number(pair):
    """A fraction of the package as a number of Python's; fails if it is none."""
    top, bottom = pair
    number = Fraction(top, bottom)
    if (top.__class__, bottom.__class__, pair.__class__) != (int, int, tuple) or as_pair(number) != pair:
        raise AssertionError(f"no fraction: {pair!r}")
    return number


def as_numbers(pairs):
    if pairs.__class__ is not tuple:
        raise AssertionError(f"no tuple: {pairs!r}")
    return [as_number(pair) for pair in pairs]


def signs_of(table):
    """All signs for the columns, ascending."""
    return list(itertools.product((-1, 1), repeat=len(table.columns)))


def corners_of(table):
    """All corners of a small table, as lists of rows of integers."""
    many = len(table.columns)
    places = [stretch for _, stretches in table.rows for stretch in stretches]
    for numbers in itertools.product(*[sorted(set(stretch)) for stretch in places]):
        yield [list(numbers[at:at + many]) for at in range(0, len(numbers), many)]


def ends_by_signs(table, signs):
    """The ends of all rows, HIGH for 1 and LOW for -1, as lists of integers."""
    return [[stretch[(sign + 1) // 2] for stretch, sign in zip(stretches, signs)] for _, stretches in table.rows]


def any_times(source):
    """Times of any size, often without a schedule."""
    points = "".join(sorted(source.sample("abcdefghijklmnopqrstuvwxyz", source.randint(2, 6))))
    facts = []
    for _ in range(source.randint(0, 12)):
        low = source.choice((-1000, source.randint(-1000, 1000), source.randint(-9, 9)))
        facts.append((*source.sample(points, 2), (low, source.randint(low, 1000))))
    return Times(points, tuple(facts))


def small_times(source, points, facts, most=2):
    """Times of just this size with small numbers."""
    letters = "abcdef"[:points]
    return Times(letters, tuple((*source.sample(letters, 2), small_stretch(source, most)) for _ in range(facts)))


def any_web(source, most=1000, places=None, ties=None):
    """A web: of any size, or of this one."""
    places = places or source.randint(2, 6)
    letters = "".join(sorted(source.sample("abcdefghij", places)))
    every = [one + other for one, other in itertools.combinations(letters, 2)]
    while True:
        many = max(ties or source.randint(places - 1, 10), places - 1)
        pairs = sorted(source.sample(every, min(many, len(every), 10)))
        try:
            return Web(letters, tuple((pair, length(source, most)) for pair in pairs))
        except NotJoined:
            pass


def length(source, most):
    low = source.choice((0, most, source.randint(0, most)))
    return low, source.choice((low, source.randint(low, most)))


def any_counts(source, most=1000, names=None):
    """Counts: of any size, or of this one."""
    names = sorted(source.sample(("a", "b", "ca", "cb", "d", "eeeeeeee", "p", "q"), names or source.randint(2, 5)))
    return Counts(tuple((name, length(source, most)) for name in names))
