"""Desks: things under names, and promises that hold after each change."""

from cornersure.errors import (
    Broken,
    InUse,
    InvalidLog,
    InvalidName,
    InvalidNumber,
    InvalidWish,
    NotAThing,
    NotPossible,
    UnknownName,
    WrongName,
    WrongValue,
)
from cornersure.histories import History, Trial
from cornersure.kinds import is_integer, is_name, is_one_of, is_tuple_of
from cornersure.things import KINDS, kind_of, thing_told
from cornersure.wishes import holds_for, is_promise, names_of


class Condition:
    """What a desk has at a time: things by their names, promises, and the deeds that have led to it."""

    def __init__(self, things, promised, deeds):
        self.things = things
        self.promised = promised
        self.deeds = deeds


class Desk:
    """Tables, times, webs and counts under names, with promises that always hold; all changes can be taken back."""

    def __init__(self):
        self._history = History(Condition({}, (), ()))

    def __len__(self):
        return len(self._history.conditions[-1].things)

    def __bool__(self):
        # Without it, an empty desk would be false, as its length is 0.
        return True

    def __eq__(self, other):
        return self is other

    @property
    def names(self):
        """The names, ascending."""
        return tuple(sorted(list(self._history.conditions[-1].things)))

    @property
    def promises(self):
        """The promises, in their order."""
        return self._history.conditions[-1].promised

    @property
    def changes(self):
        """How many changes can be taken back."""
        return len(self._history.conditions) - 1

    @property
    def log(self):
        """The changes that have not been taken back, in their order."""
        return self._history.conditions[-1].deeds

    def put(self, name, thing):
        """Put a thing under a name, also in the place of another one."""
        if not is_name(name):
            raise InvalidName(name)
        kind = kind_of(thing)
        if kind is None:
            raise NotAThing(thing)
        now = self._history.conditions[-1]
        things = {**now.things, name: thing}
        for index, promise in enumerate(now.promised):
            if name in names_of(promise) and not holds_for(promise, things):
                raise Broken(index)
        self._go_on(things, now.promised, ("put", name, kind, str(thing)))

    def named(self, name):
        """What stands under a name."""
        self._check_name(name)
        return self._history.conditions[-1].things[name]

    def drop(self, name):
        """Take a name away."""
        self._check_name(name)
        now = self._history.conditions[-1]
        for index, promise in enumerate(now.promised):
            if name in names_of(promise):
                raise InUse(index)
        things = {other: thing for other, thing in now.things.items() if other != name}
        self._go_on(things, now.promised, ("drop", name))

    def promise(self, wish):
        """A promise more, behind the others."""
        if not is_promise(wish):
            raise InvalidWish(wish)
        for name in names_of(wish):
            self._check_name(name)
        now = self._history.conditions[-1]
        if not holds_for(wish, now.things):
            raise Broken(len(now.promised))
        self._go_on(now.things, (*now.promised, wish), ("promise", wish))

    def lift(self, index):
        """Take a promise away."""
        promised = self._history.conditions[-1].promised
        if not is_integer(index) or not 0 <= index < len(promised):
            raise InvalidNumber(index)
        things = self._history.conditions[-1].things
        self._go_on(things, (*promised[:index], *promised[index + 1:]), ("lift", index))

    def undo(self):
        """Take back the last change that has not been taken back."""
        self._history.go_back()

    def trial(self):
        """For a `with` statement: if its rows end with an exception, the desk is as it was when they began."""
        return Trial(self._history, self)

    def tried(self, action):
        """What a function returns that is called with the desk within a trial."""
        with Trial(self._history, self):
            return action(self)

    def _check_name(self, name):
        if not is_one_of(name, self.names):
            raise UnknownName(name)

    def _go_on(self, things, promised, deed):
        deeds = (*self._history.conditions[-1].deeds, deed)
        self._history.go_on(Condition(things, promised, deeds))


def played(log):
    """The desk to which these changes lead."""
    if not isinstance(log, tuple):
        raise InvalidLog(None)
    desk = Desk()
    for index, change in enumerate(log):
        if not _is_played(desk, change):
            raise InvalidLog(index)
    return desk


def _is_played(desk, change):
    """Do a change at the desk, if it is one and is not refused; whether it was done."""
    if not isinstance(change, tuple) or not change:
        return False
    try:
        return _play(desk, change[0], change[1:])
    except (WrongValue, WrongName, NotPossible):
        return False


def _play(desk, word, parts):
    if is_one_of(word, ["put"]):
        return _play_put(desk, parts)
    if not is_tuple_of(parts, 1) or not is_one_of(word, ["drop", "promise", "lift"]):
        return False
    if word == "drop":
        desk.drop(parts[0])
    elif word == "promise":
        desk.promise(parts[0])
    else:
        desk.lift(parts[0])
    return True


def _play_put(desk, parts):
    if not is_tuple_of(parts, 3):
        return False
    name, kind, text = parts
    if not is_one_of(kind, KINDS):
        return False
    desk.put(name, thing_told(kind, text))
    return True
