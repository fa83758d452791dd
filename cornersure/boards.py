"""Boards: tables that become known better, and change, step by step."""

from cornersure.errors import InvalidStretch
from cornersure.histories import History, Trial
from cornersure.tables import check_table, is_within


class Board:
    """A table that becomes known better, and changes; all its changes can be taken back."""

    def __init__(self, table):
        check_table(table)
        self._history = History(table)

    def __eq__(self, other):
        return self is other

    @property
    def now(self):
        """The table as it is now."""
        return self._history.conditions[-1]

    @property
    def changes(self):
        """How many changes can be taken back."""
        return len(self._history.conditions) - 1

    def narrow(self, name, column, stretch):
        """Know a stretch better: one that lies in that which is there."""
        after = self.now.changed(name, column, stretch)
        if not is_within(after, self.now):
            raise InvalidStretch(stretch)
        self._history.go_on(after)

    def change(self, name, column, stretch):
        """Another stretch in this row and column."""
        self._history.go_on(self.now.changed(name, column, stretch))

    def put(self, row):
        """A row more, behind the others."""
        self._history.go_on(self.now.more(row))

    def drop(self, name):
        """Take this row away."""
        self._history.go_on(self.now.without(name))

    def undo(self):
        """Take back the last change that has not been taken back."""
        self._history.go_back()

    def trial(self):
        """For a `with` statement: if its rows end with an exception, the board is as it was when they began."""
        return Trial(self._history, self)

    def tried(self, action):
        """What a function returns that is called with the board within a trial."""
        with Trial(self._history, self):
            return action(self)
