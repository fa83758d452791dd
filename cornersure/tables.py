"""Tables: rows and columns of stretches, with their members and corners."""

from cornersure.errors import (
    InvalidColumn,
    InvalidColumns,
    InvalidMember,
    InvalidRows,
    InvalidSigns,
    InvalidStretch,
    InvalidText,
    NotATable,
    NotWhole,
    TooFew,
    TooMany,
    UnknownName,
)
from cornersure.kinds import (
    are_fractions_in,
    is_integer,
    is_name,
    is_one_of,
    is_stretch,
    is_tuple_of,
    stretches_text,
    stretches_told,
)
from cornersure.limits import MOST_COLUMNS, MOST_END, MOST_ROWS
from cornersure.ratios import all_over


class Table:
    """Numbers known within stretches, one for each row and column; it never changes."""

    def __init__(self, columns, rows):
        check_columns(columns)
        check_rows(columns, rows)
        self._columns = columns
        self._rows = rows

    @classmethod
    def told(cls, text):
        """The table whose text this is."""
        return table_told(text)

    @property
    def columns(self):
        """The names of the columns."""
        return self._columns

    @property
    def rows(self):
        """The pairs (NAME, STRETCHES)."""
        return self._rows

    @property
    def names(self):
        """The names of the rows."""
        return tuple([name for name, _ in self._rows])

    def __str__(self):
        return "\n".join([" ".join(self._columns), *[_row_text(row) for row in self._rows]])

    def __len__(self):
        return len(self._rows)

    def __eq__(self, other):
        return isinstance(other, Table) and self._columns == other._columns and self._rows == other._rows

    def stretch(self, name, column):
        """The stretch in this row and column."""
        return row_stretches(self, name)[column_index(self, column)]

    def changed(self, name, column, stretch):
        """The table with another stretch in this row and column."""
        row, place = row_index(self, name), column_index(self, column)
        if not _is_end_pair(stretch):
            raise InvalidStretch(stretch)
        stretches = self._rows[row][1]
        after = (name, (*stretches[:place], stretch, *stretches[place + 1:]))
        return Table(self._columns, (*self._rows[:row], after, *self._rows[row + 1:]))

    def more(self, row):
        """The table with a row more, behind the others."""
        return Table(self._columns, (*self._rows, row))

    def without(self, name):
        """The table without this row."""
        row = row_index(self, name)
        if len(self._rows) == 1:
            raise TooFew(0)
        return Table(self._columns, (*self._rows[:row], *self._rows[row + 1:]))


def table_told(text):
    """The table whose text this is; raise InvalidText for what is no such text."""
    if not isinstance(text, str):
        raise InvalidText(text)
    lines = text.split("\n")
    rows = tuple([_row_told(line) for line in lines[1:]])
    try:
        return Table(tuple(lines[0].split(" ")), rows)
    except (InvalidColumns, InvalidRows):
        raise InvalidText(text) from None


def check_columns(columns):
    """Raise InvalidColumns for what are no columns of a table."""
    if not isinstance(columns, tuple) or not columns:
        raise InvalidColumns(None)
    for index, name in enumerate(columns):
        if index == MOST_COLUMNS or not is_name(name) or name in columns[:index]:
            raise InvalidColumns(index)


def check_rows(columns, rows):
    """Raise InvalidRows for what are no rows for these columns."""
    if not isinstance(rows, tuple) or not rows:
        raise InvalidRows(None)
    names = []
    for index, row in enumerate(rows):
        if index == MOST_ROWS or not _is_row(row, len(columns)) or row[0] in names:
            raise InvalidRows(index)
        names.append(row[0])


def check_table(table):
    """Raise NotATable for what is no table."""
    if not isinstance(table, Table):
        raise NotATable(table)


def row_index(table, name):
    """The index of the row with this name; raise UnknownName for what is no row's name."""
    if not is_one_of(name, table.names):
        raise UnknownName(name)
    return table.names.index(name)


def row_stretches(table, name):
    """The stretches of the row with this name; raise UnknownName for what is no row's name."""
    return table.rows[row_index(table, name)][1]


def column_index(table, column):
    """The index of this column; raise InvalidColumn for what is no column."""
    if not is_one_of(column, table.columns):
        raise InvalidColumn(column)
    return table.columns.index(column)


def check_signs(table, signs):
    """Raise InvalidSigns for what is no tuple of 1 and -1, one for each column."""
    if not is_tuple_of(signs, len(table.columns)):
        raise InvalidSigns(signs)
    if not all([is_integer(sign) and sign in (1, -1) for sign in signs]):
        raise InvalidSigns(signs)


def check_member(table, member):
    """Raise InvalidMember for what is no member of the table."""
    if not is_member(table, member):
        raise InvalidMember(member)


def corner(table, signs):
    """The member with HIGH in the columns with 1 and LOW in those with -1."""
    check_table(table)
    check_signs(table, signs)
    return tuple([all_over(numbers, 1) for numbers in ends_by(table, signs)])


def all_low(table):
    """The member with LOW in all places."""
    check_table(table)
    return tuple([all_over(numbers, 1) for numbers in lows(table)])


def all_high(table):
    """The member with HIGH in all places."""
    check_table(table)
    return tuple([all_over(numbers, 1) for numbers in highs(table)])


def ends_by(table, signs):
    """For each row the tuple of its ends, integers: HIGH in the columns with 1, LOW in those with -1."""
    return [signed_ends(stretches, signs) for _, stretches in table.rows]


def lows(table):
    """For each row the tuple of its LOWs."""
    return ends_by(table, (-1,) * len(table.columns))


def highs(table):
    """For each row the tuple of its HIGHs."""
    return ends_by(table, (1,) * len(table.columns))


def signed_ends(stretches, signs):
    """The end of each stretch, an integer: HIGH for 1, LOW for -1."""
    return tuple([high if sign == 1 else low for (low, high), sign in zip(stretches, signs)])


def all_signs(table):
    """All signs for the columns of a table, ascending."""
    found = [()]
    for _ in table.columns:
        found = [(*signs, sign) for signs in found for sign in (-1, 1)]
    return found


def column_stretches(table):
    """For each column the tuple of its stretches, row by row."""
    return [tuple([stretches[at] for _, stretches in table.rows]) for at in range(len(table.columns))]


def are_end_pairs(value, many):
    """Whether any value is a tuple of that many stretches."""
    return is_tuple_of(value, many) and all([_is_end_pair(part) for part in value])


def exact(table, member):
    """The table whose stretches are the numbers of a member."""
    check_table(table)
    check_member(table, member)
    for fraction in [part for numbers in member for part in numbers]:
        if fraction[1] != 1:
            raise NotWhole(fraction)
    return Table(table.columns, tuple(zip(table.names, [_exact_stretches(numbers) for numbers in member])))


def is_member(table, value):
    """Whether any value is a member of the table."""
    check_table(table)
    if not is_tuple_of(value, len(table)):
        return False
    return all([are_fractions_in(stretches, part) for (_, stretches), part in zip(table.rows, value)])


def is_within(table, other_table):
    """Whether the first table is within the second one."""
    check_table(table)
    check_table(other_table)
    if table.columns != other_table.columns or table.names != other_table.names:
        return False
    return all([_rows_lie_in(row, other) for row, other in zip(table.rows, other_table.rows)])


def turned(table):
    """The table with rows for columns, all numbers with the opposite sign."""
    check_table(table)
    if len(table) > MOST_COLUMNS:
        raise TooMany(len(table))
    return Table(table.names, tuple([_turned_row(table, column) for column in table.columns]))


def _turned_row(table, column):
    stretches = [table.stretch(name, column) for name in table.names]
    return column, tuple([(-high, -low) for low, high in stretches])


def _is_end_pair(value):
    return is_stretch(value, -MOST_END, MOST_END)


def _is_row(value, many):
    if not is_tuple_of(value, 2):
        return False
    name, stretches = value
    return is_name(name) and are_end_pairs(stretches, many)


def _row_told(line):
    words = line.split(" ")
    return words[0], stretches_told(words[1:])


def _row_text(row):
    name, stretches = row
    return f"{name} {stretches_text(stretches)}"


def _exact_stretches(numbers):
    return tuple([(top, top) for top, _ in numbers])


def _rows_lie_in(row, other):
    return all([low <= first and last <= high for (first, last), (low, high) in zip(row[1], other[1])])
