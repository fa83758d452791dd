"""What something was and is: conditions one after the other, and trials that leave nothing behind if they fail."""

from cornersure.errors import NothingToUndo


class History:
    """Conditions one after the other; the last one is that of now, the first one cannot be taken back."""

    def __init__(self, first):
        self.conditions = (first,)

    def go_on(self, condition):
        """A condition more."""
        self.conditions = (*self.conditions, condition)

    def go_back(self):
        """Take back the last condition."""
        if len(self.conditions) == 1:
            raise NothingToUndo()
        self.conditions = self.conditions[:-1]


class Trial:
    """For a `with` statement: if its rows end with an exception, the history is as it was when they began."""

    def __init__(self, history, owner):
        self._history = history
        self._owner = owner
        self._begun = None

    def __enter__(self):
        # One trial may stand within itself: then each of both has its own beginning.
        self._begun = Beginning(self._history.conditions, self._begun)
        return self._owner

    def __exit__(self, kind, value, trace):
        if kind is not None:
            self._history.conditions = self._begun.conditions
        self._begun = self._begun.outer


class Beginning:
    """The conditions when the rows of a trial began, and the beginning of the same trial around it, or None."""

    def __init__(self, conditions, outer):
        self.conditions = conditions
        self.outer = outer
