"""Loads compared, place by place."""

from stayorgo.loads import leveled, load_from
from stayorgo.usable import require_alike


def places_above(load, other):
    """The set of the places at which load is more than other."""
    return tuple([i for i, (top, limit) in enumerate(leveled(load, other)) if top > limit])


def is_within(load, other):
    """Whether load is at each place at most other."""
    require_alike(load, other)
    return not places_above(load, other)


def lesser_of(load, other):
    """The load that is at each place the lesser one of both."""
    require_alike(load, other)
    return load_from([min(top, limit) for top, limit in leveled(load, other)], load[1] * other[1])


def greater_of(load, other):
    """The load that is at each place the greater one of both."""
    require_alike(load, other)
    return load_from([max(top, limit) for top, limit in leveled(load, other)], load[1] * other[1])


def first_above(load, other):
    """The least place at which load is more than other, or None."""
    require_alike(load, other)
    above = places_above(load, other)
    return above[0] if above else None
