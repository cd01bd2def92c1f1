"""Sums, differences and the like of quotients."""

from math import gcd

from stayorgo.kinds import is_integer, is_quotient
from stayorgo.usable import require


def reduced(top, bottom):
    """top / bottom in lowest terms; bottom is an integer other than 0."""
    common = gcd(top, bottom)
    if bottom < 0:
        return (-top // common, -bottom // common)
    return (top // common, bottom // common)


def require_quotients(one, other):
    """one and other are quotients."""
    require(is_quotient(one), "one")
    require(is_quotient(other), "other")


def quotient_of(top, bottom):
    """top / bottom as a quotient."""
    require(is_integer(top), "top")
    require(is_integer(bottom) and bottom != 0, "bottom")
    return reduced(top, bottom)


def plus(one, other):
    """one + other."""
    require_quotients(one, other)
    return reduced(one[0] * other[1] + other[0] * one[1], one[1] * other[1])


def minus(one, other):
    """one - other."""
    require_quotients(one, other)
    return reduced(one[0] * other[1] - other[0] * one[1], one[1] * other[1])


def times(one, other):
    """one times other."""
    require_quotients(one, other)
    return reduced(one[0] * other[0], one[1] * other[1])


def over(one, other):
    """one divided by other, which is not nought."""
    require_quotients(one, other)
    require(other[0] != 0, "other")
    return reduced(one[0] * other[1], one[1] * other[0])


def is_less(one, other):
    """Whether one is less than other."""
    require_quotients(one, other)
    return one[0] * other[1] < other[0] * one[1]


def least_of(quotients):
    """The least one of a list of quotients, not empty."""
    best = quotients[0]
    for quotient in quotients:
        if is_less(quotient, best):
            best = quotient
    return best


def greatest_of(quotients):
    """The greatest one of a list of quotients, not empty."""
    best = quotients[0]
    for quotient in quotients:
        if is_less(best, quotient):
            best = quotient
    return best
