"""Fractions: pairs (TOP, BOTTOM) in lowest terms, BOTTOM above 0."""

from math import gcd, lcm


def reduced(top, bottom):
    """The fraction of two integers, the second one above 0."""
    part = gcd(top, bottom)
    return top // part, bottom // part


def all_over(tops, bottom):
    """The fractions of these integers over one bottom, which is above 0."""
    return tuple([reduced(top, bottom) for top in tops])


def with_one_bottom(fractions):
    """These fractions as a list of integers over one bottom, which is above 0."""
    bottom = 1
    for _, part in fractions:
        bottom = lcm(bottom, part)
    return [top * (bottom // part) for top, part in fractions], bottom


def total(fractions):
    """The sum of fractions."""
    tops, bottom = with_one_bottom(fractions)
    return reduced(sum(tops), bottom)


def opposite(fraction):
    """The fraction with the other sign."""
    top, bottom = fraction
    return -top, bottom


def is_below(one, other):
    """Whether the first fraction is less than the second one."""
    return one[0] * other[1] < other[0] * one[1]


def least(fractions):
    """The least one of one or more fractions."""
    found = fractions[0]
    for fraction in fractions:
        if is_below(fraction, found):
            found = fraction
    return found


def greatest(fractions):
    """The greatest one of one or more fractions."""
    return opposite(least([opposite(fraction) for fraction in fractions]))
