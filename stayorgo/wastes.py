"""Waste: the multiples of the shares that passes hold."""

from stayorgo.arrows import closed_lots, require_closed
from stayorgo.kinds import is_amount
from stayorgo.loads import added, entry_of, scaled, taken
from stayorgo.quotients import least_of, over
from stayorgo.stepping import shares_on
from stayorgo.usable import require, require_load


def waste_on(web, passes, lot):
    """The greatest multiple of the lot's shares that can be taken off the passes."""
    shares = shares_on(web, lot)
    return least_of([over(entry_of(passes, place), entry_of(shares, place)) for place in lot])


def trimmed(web, passes):
    """The passes with the greatest multiple of its shares taken off for each closed lot."""
    require_load(web, passes, "passes")
    left = passes
    for lot in closed_lots(web):
        left = taken(left, scaled(shares_on(web, lot), waste_on(web, left, lot)))
    return left


def waste_of(web, passes):
    """For each closed lot the multiple of its shares that trimming takes off."""
    require_load(web, passes, "passes")
    return tuple([waste_on(web, passes, lot) for lot in closed_lots(web)])


def wasted(web, passes, closed, factor):
    """The passes with the shares of closed times the factor added."""
    require_load(web, passes, "passes")
    require_closed(web, closed)
    require(is_amount(factor), "factor")
    return added(passes, scaled(shares_on(web, closed), factor))
