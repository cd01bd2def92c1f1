"""Forgetting: the spread whose worst need is least."""

from stayorgo.backwards import all_shares, require_one_lot
from stayorgo.ends import end_after
from stayorgo.errors import InvalidPaper
from stayorgo.kinds import is_spread
from stayorgo.loads import load_of, unit_load, weight_of
from stayorgo.quotients import greatest_of, least_of, minus
from stayorgo.returns import need_from, return_columns
from stayorgo.usable import require, require_place, size_of


def lacking(web):
    """The load that is at each place 0 less the least number of the column of g there."""
    # Each column has the mean 0 by the shares, so none of its least numbers is above 0.
    return load_of(tuple([minus((0, 1), least_of(column)) for column in return_columns(web)]))


def needs_from_places(web, wish):
    """For each place the need of the wish from there."""
    return [need_from(web, unit_load(size_of(web), place), wish) for place in range(size_of(web))]


def require_spread(web, wish):
    """web is one closed lot, wish a spread of its size."""
    require_one_lot(web)
    require(is_spread(size_of(web), wish), "wish")


def forgetting(web):
    """The one spread whose worst need is least."""
    require_one_lot(web)
    # For a wish w the worst need is the greatest, over the places j, of the sum of w times column j of g less the least
    # number of the column, over the shares. The sums add up to 0, so it is least if it is the same at all places: if w
    # is what stays of the shares after the passes that are lacking.
    return end_after(web, all_shares(web), lacking(web))


def forgetting_need(web):
    """The least worst need."""
    require_one_lot(web)
    return weight_of(lacking(web))


def worst_need(web, wish):
    """The greatest need of the wish from a place."""
    require_spread(web, wish)
    return greatest_of(needs_from_places(web, wish))


def worst_places(web, wish):
    """The set of the places from which the need of the wish is greatest."""
    require_spread(web, wish)
    needs = needs_from_places(web, wish)
    return tuple([place for place, need in enumerate(needs) if need == greatest_of(needs)])


def home_need(web, place):
    """The need from the place to the shares."""
    require_one_lot(web)
    require_place(web, place, "place")
    return need_from(web, unit_load(size_of(web), place), all_shares(web))


def lets_forgetting(web, thing):
    """The least worst need; refuses what is not the spread that has it."""
    least = forgetting_need(web)
    if not is_spread(size_of(web), thing):
        raise InvalidPaper("spread", -1)
    if worst_need(web, thing) != least:
        raise InvalidPaper("least", -1)
    return least
