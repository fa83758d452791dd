"""Kinds of values that all modules ask for, and how integers are told in texts."""

from math import gcd

_MOST_LETTERS = 8
# No text may have a longer number, and Python refuses to read some thousand digits.
_MOST_DIGITS = 6


def is_integer(value):
    """Whether any value is an integer; True and False are none."""
    return isinstance(value, int) and not isinstance(value, bool)


def is_tuple_of(value, many):
    """Whether any value is a tuple with so many values in it."""
    return isinstance(value, tuple) and len(value) == many


def is_pair_of_integers(value):
    """Whether any value is a tuple of two integers."""
    return is_tuple_of(value, 2) and is_integer(value[0]) and is_integer(value[1])


def is_name(value):
    """Whether any value is a name: one to eight letters from a to z."""
    if not isinstance(value, str) or not 1 <= len(value) <= _MOST_LETTERS:
        return False
    return all(["a" <= letter <= "z" for letter in value])


def are_letters(value, least, most):
    """Whether any value is a string of that many letters from a to z, each one greater than that ahead of it."""
    if not isinstance(value, str) or not least <= len(value) <= most:
        return False
    return all(["a" <= letter <= "z" for letter in value]) and ascends(value)


def ascends(values):
    """Whether each part of a string, or of a tuple of strings, is greater than that ahead of it."""
    return all([one < other for one, other in zip(values, values[1:])])


def is_one_of(value, names):
    """Whether any value is one of these strings."""
    # An object of another kind may call itself equal to any string, so strings alone are compared.
    return isinstance(value, str) and value in names


def is_stretch(value, least, most):
    """Whether any value is a pair (LOW, HIGH), LOW at most HIGH, of integers within these bounds."""
    if not is_pair_of_integers(value):
        return False
    low, high = value
    return least <= low <= high <= most


def is_fraction(value):
    """Whether any value is a pair (TOP, BOTTOM) in lowest terms, BOTTOM above 0."""
    if not is_pair_of_integers(value):
        return False
    top, bottom = value
    return bottom > 0 and gcd(top, bottom) == 1


def are_fractions_in(stretches, value):
    """Whether any value is a tuple of fractions, one in each of these stretches."""
    if not is_tuple_of(value, len(stretches)):
        return False
    return all([is_fraction(part) and lies_in(part, stretch) for part, stretch in zip(value, stretches)])


def lies_in(fraction, stretch):
    """Whether a fraction is a number of a stretch."""
    top, bottom = fraction
    low, high = stretch
    return low * bottom <= top <= high * bottom


def integer_told(word):
    """The integer that Python writes as this word; None for all other words."""
    digits = word.removeprefix("-")
    if not 1 <= len(digits) <= _MOST_DIGITS or any([digit not in "0123456789" for digit in digits]):
        return None
    number = int(word)
    return number if str(number) == word else None


def stretches_told(words):
    """What these words tell, two by two: pairs of integers, but None for a wrong word and a last tuple of one."""
    numbers = [integer_told(word) for word in words]
    return tuple([tuple(numbers[at:at + 2]) for at in range(0, len(numbers), 2)])


def row_told(line, many):
    """What a line tells: so many words as they stand, then what `stretches_told` tells of the others."""
    words = line.split(" ")
    return (*words[:many], *stretches_told(words[many:]))


def stretches_text(stretches):
    """LOW and HIGH of each stretch, with single spaces, as `stretches_told` reads them."""
    return " ".join([f"{low} {high}" for low, high in stretches])
