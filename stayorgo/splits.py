"""Places split into copies."""

from stayorgo.kinds import is_below, is_bottom, is_load, is_pair, is_spread
from stayorgo.loads import load_from
from stayorgo.usable import require, require_place, size_of
from stayorgo.webmaking import row_of, web_from


def is_splitting(thing):
    """Whether thing is a spread of a size of at least 2 that is 0 nowhere."""
    if not (is_pair(thing) and isinstance(thing[0], tuple) and len(thing[0]) >= 2):
        return False
    return is_spread(len(thing[0]), thing) and min(thing[0]) > 0


def split_of(place, spread, load):
    """The load with what stands at the place divided by the spread."""
    tops, bottom = load
    ahead = [top * spread[1] for top in tops[:place]]
    after = [top * spread[1] for top in tops[place + 1:]]
    return load_from(ahead + [tops[place] * share for share in spread[0]] + after, bottom * spread[1])


def split_web(web, place, spread):
    """The web with copies of the place, among which the chances to step there are divided by the spread."""
    require_place(web, place, "place")
    require(is_splitting(spread), "spread")
    rows = [split_of(place, spread, row_of(web, i)) for i in range(size_of(web))]
    return web_from(rows[:place] + [rows[place]] * len(spread[0]) + rows[place + 1:])


def split_load(size, place, spread, load):
    """The load with what stands at the place divided among its copies by the spread."""
    require(is_below(size, place), "place")
    require(is_splitting(spread), "spread")
    require(is_load(size, load), "load")
    return split_of(place, spread, load)


def copies_of(size, place, many):
    """The parts with all of so many copies of the place in one part, each other place alone."""
    require(is_below(size, place), "place")
    require(is_bottom(many), "many")
    ahead = [(i,) for i in range(place)]
    after = [(i,) for i in range(place + many, size + many - 1)]
    return tuple(ahead + [tuple(range(place, place + many))] + after)
