"""Whether values are arrow rows, walkers, seats."""

from stayorgo.kinds import are_numbers, is_below, is_pair


def are_places(size, thing):
    """Whether thing is a tuple of places of the size."""
    return isinstance(thing, tuple) and all([is_below(size, place) for place in thing])


def is_row(size, thing):
    """Whether thing is the pair (ahead, loop) of a place of the size."""
    return is_pair(thing) and are_places(size, thing[0]) and are_places(size, thing[1]) and len(thing[1]) > 0


def is_rows(thing):
    """Whether thing is arrow rows of some size."""
    return isinstance(thing, tuple) and len(thing) > 0 and all([is_row(len(thing), row) for row in thing])


def is_walkers(size, thing):
    """Whether thing is walkers, or seats, of the size."""
    return are_numbers(size, thing)
