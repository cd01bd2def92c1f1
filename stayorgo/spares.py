"""What an allowance leaves over, and more of it or of the start."""

from stayorgo.loads import added, taken
from stayorgo.mosts import most_and_end, most_passes, require_allowance
from stayorgo.usable import require_load


def spare_of(web, start, allowance):
    """The allowance less the most passes."""
    require_allowance(web, start, allowance)
    return taken(allowance, most_passes(web, start, allowance))


def more_allowance(web, start, allowance, extra):
    """The pair of the most passes and the last end for the start and allowance + extra."""
    require_allowance(web, start, allowance)
    require_load(web, extra, "extra")
    return most_and_end(web, start, added(allowance, extra))


def more_start(web, start, allowance, extra):
    """The pair of the most passes and the last end for start + extra and the allowance."""
    require_allowance(web, start, allowance)
    require_load(web, extra, "extra")
    return most_and_end(web, added(start, extra), allowance)
