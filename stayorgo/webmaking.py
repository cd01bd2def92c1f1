"""Webs made: of chances, rings, lazy webs, webs side by side."""

from stayorgo.kinds import is_amount, is_spread
from stayorgo.loads import added, common_multiple, load_from, load_of, scaled, unit_load
from stayorgo.quotients import is_less, minus
from stayorgo.usable import require, require_place, size_of
from stayorgo.webchecker import is_web


def web_from(chances):
    """The web with these chances from each place, a list of spreads."""
    # The bottoms are in lowest terms, so nothing is common to their least multiple and all numbers.
    bottom = common_multiple([under for _, under in chances])
    return (tuple([tuple([top * (bottom // under) for top in tops]) for tops, under in chances]), bottom)


def is_chance_row(size, row):
    """Whether row is a tuple of as many quotients as the size, none below 0, with the sum 1."""
    if not (isinstance(row, tuple) and len(row) == size and all([is_amount(chance) for chance in row])):
        return False
    return is_spread(size, load_of(row))


def are_chances(rows):
    """Whether rows are a nonempty tuple with a row of chances for each place."""
    if not (isinstance(rows, tuple) and len(rows) > 0):
        return False
    return all([is_chance_row(len(rows), row) for row in rows])


def web_of(rows):
    """The web with these quotients as chances."""
    require(are_chances(rows), "rows")
    return web_from([load_of(row) for row in rows])


def ring_web(size):
    """The web with arrows from each place to the next one and from the last to 0 alone."""
    return web_from([unit_load(size, (place + 1) % size) for place in range(size)])


def lazily(web, part):
    """The web in which each step is taken with the chance 1 - part."""
    require(is_amount(part) and not is_less((1, 1), part), "part")
    size = size_of(web)
    goes = minus((1, 1), part)
    return web_from([
        added(scaled(row_of(web, place), goes), scaled(unit_load(size, place), part))
        for place in range(size)
    ])


def beside(web, other):
    """The web with the places of web, behind them those of other, and no arrow between both."""
    require(is_web(other), "other")
    ahead = [row_of(web, place) for place in range(size_of(web))]
    after = [row_of(other, place) for place in range(size_of(other))]
    return web_from(
        [(tops + (0,) * len(after), bottom) for tops, bottom in ahead]
        + [((0,) * len(ahead) + tops, bottom) for tops, bottom in after]
    )


def row_of(web, place):
    """The chances from the place, as a load."""
    require_place(web, place, "place")
    return load_from(web[0][place], web[1])
