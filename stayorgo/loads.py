"""Loads: what stands at places, over one bottom."""

from math import lcm

from stayorgo.kinds import common_divisor, is_below, is_load, is_amount
from stayorgo.quotients import reduced
from stayorgo.usable import require, require_alike


def common_multiple(bottoms):
    """The least bottom that is a multiple of all of the bottoms."""
    found = 1
    for bottom in bottoms:
        found = lcm(found, bottom)
    return found


def load_from(tops, bottom):
    """The load of tops over bottom, in lowest terms; the tops are a list of numbers."""
    common = common_divisor([*tops, bottom])
    return (tuple([top // common for top in tops]), bottom // common)


def leveled(load, other):
    """For each place the pair of both tops, over the product of both bottoms."""
    return [(load[0][i] * other[1], other[0][i] * load[1]) for i in range(len(load[0]))]


def are_amounts(thing):
    """Whether thing is a nonempty tuple of quotients, none below 0."""
    return isinstance(thing, tuple) and len(thing) > 0 and all([is_amount(quotient) for quotient in thing])


def load_of(quotients):
    """The load that stands for the quotients."""
    require(are_amounts(quotients), "quotients")
    bottom = common_multiple([under for _, under in quotients])
    return load_from([top * (bottom // under) for top, under in quotients], bottom)


def entry_of(load, place):
    """What stands at the place, a quotient."""
    require(is_below(len(load[0]), place), "place")
    return reduced(load[0][place], load[1])


def weight_of(load):
    """The sum over the places, a quotient."""
    return reduced(sum(load[0]), load[1])


def no_load(size):
    """The load that is 0 everywhere."""
    return ((0,) * size, 1)


def unit_load(size, place):
    """The load that is 1 at the place and 0 elsewhere."""
    require(is_below(size, place), "place")
    return (tuple([1 if i == place else 0 for i in range(size)]), 1)


def added(load, other):
    """load + other."""
    require_alike(load, other)
    return load_from([top + more for top, more in leveled(load, other)], load[1] * other[1])


def taken(load, other):
    """load - other, for an other within load."""
    require(is_load(len(load[0]), other) and all([top >= less for top, less in leveled(load, other)]), "other")
    return load_from([top - less for top, less in leveled(load, other)], load[1] * other[1])


def scaled(load, factor):
    """factor times load."""
    require(is_amount(factor), "factor")
    return load_from([top * factor[0] for top in load[0]], load[1] * factor[1])


def product_of(load, other):
    """The sum over the places of the products, a quotient."""
    require_alike(load, other)
    return reduced(sum([load[0][i] * other[0][i] for i in range(len(load[0]))]), load[1] * other[1])


def kept_on(load, places):
    """The load that is load at the places and 0 elsewhere."""
    return load_from([load[0][i] if i in places else 0 for i in range(len(load[0]))], load[1])


def places_of(load):
    """The set of the places at which the load is above 0."""
    return tuple([i for i in range(len(load[0])) if load[0][i] > 0])
