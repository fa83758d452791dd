"""A board by lines: each command is a string, and so is each answer."""

from cornersure.boards import Board
from cornersure.errors import InvalidCommand
from cornersure.games import possible_saddles, worths
from cornersure.kinds import integer_told, is_name
from cornersure.sums import foremost, never_below, sum_ends, surely_foremost

# What stands behind each word: names, numbers, and at the end one to eight numbers.
_FORMS = {
    "put": ("name", "numbers"),
    "narrow": ("name", "name", "number", "number"),
    "change": ("name", "name", "number", "number"),
    "drop": ("name",),
    "undo": (),
    "rows": (),
    "worths": (),
    "saddles": (),
    "sum": ("name", "numbers"),
    "foremost": ("numbers",),
    "surely": ("numbers",),
    "below": ("name", "name"),
}
_MOST_NUMBERS = 8


class Console:
    """A board that is told by lines what to do."""

    def __init__(self, table):
        self._board = Board(table)

    def __eq__(self, other):
        return self is other

    @property
    def board(self):
        """The board."""
        return self._board

    def say(self, command):
        """Do a command; the answer."""
        if not isinstance(command, str):
            raise InvalidCommand(command)
        word, *words = command.split(" ")
        if word not in _FORMS or not _is_of_form(words, _FORMS[word]):
            raise InvalidCommand(command)
        names = [part for part in words if is_name(part)]
        numbers = tuple([integer_told(part) for part in words[len(names):]])
        if word in ("put", "narrow", "change", "drop", "undo"):
            self._do(word, names, numbers)
            return "ok"
        return _answer(self._board.now, word, names, numbers)

    def _do(self, word, names, numbers):
        if word == "put":
            self._board.put((names[0], _stretches_of(numbers)))
        elif word == "narrow":
            self._board.narrow(names[0], names[1], numbers)
        elif word == "change":
            self._board.change(names[0], names[1], numbers)
        elif word == "drop":
            self._board.drop(names[0])
        else:
            self._board.undo()


def _is_of_form(words, sorts):
    if sorts[-1:] == ("numbers",):
        many = len(words) - len(sorts) + 1
        if not 1 <= many <= _MOST_NUMBERS:
            return False
        sorts = sorts[:-1] + ("number",) * many
    if len(words) != len(sorts):
        return False
    return all([_is_of_sort(word, sort) for word, sort in zip(words, sorts)])


def _is_of_sort(word, sort):
    return is_name(word) if sort == "name" else integer_told(word) is not None


def _stretches_of(numbers):
    """The numbers two by two."""
    return tuple([numbers[at:at + 2] for at in range(0, len(numbers), 2)])


def _answer(table, word, names, numbers):
    if word == "rows":
        return " ".join(table.names)
    if word == "worths":
        return " ".join([f"{top}/{bottom}" for top, bottom in worths(table)])
    if word == "saddles":
        return _words_or_none([f"{name}:{column}" for name, column in possible_saddles(table)])
    if word == "sum":
        low, high = sum_ends(table, names[0], numbers)
        return f"{low} {high}"
    if word == "foremost":
        return _words_or_none(foremost(table, numbers))
    if word == "surely":
        return _words_or_none(surely_foremost(table, numbers))
    return "yes" if never_below(table, names[0], names[1]) else "no"


def _words_or_none(words):
    return " ".join(words) if words else "none"
