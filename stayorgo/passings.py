"""Which loads are the passes of some sure rule."""

from stayorgo.arrows import closed_lots
from stayorgo.compares import first_above, is_within
from stayorgo.ends import end_after
from stayorgo.errors import InvalidPaper
from stayorgo.kinds import is_load
from stayorgo.mostchecker import comes_to_lot
from stayorgo.stepping import come_to
from stayorgo.usable import require_load, size_of


def require_passes(web, start, passes):
    """start and passes are loads of the web's size."""
    require_load(web, start, "start")
    require_load(web, passes, "passes")


def closed_round(web, start, passes):
    """The number of the first closed lot that is passed everywhere while nothing comes to it, or None."""
    for k, lot in enumerate(closed_lots(web)):
        if all([passes[0][place] > 0 for place in lot]) and not comes_to_lot(web, start, passes, lot):
            return k
    return None


def passes_fault(web, start, passes):
    """The word and the position of the first fault that the load has as the passes of a sure rule, or None."""
    place = first_above(passes, come_to(web, start, passes))
    if place is not None:
        return ("below", place)
    lot = closed_round(web, start, passes)
    return None if lot is None else ("lot", lot)


def left_by(web, start, passes):
    """start + passes stepped - passes, or None if this is below 0 at some place."""
    require_passes(web, start, passes)
    return end_after(web, start, passes) if is_within(passes, come_to(web, start, passes)) else None


def are_passes(web, start, passes):
    """Whether the passes are those of some sure rule."""
    require_passes(web, start, passes)
    return passes_fault(web, start, passes) is None


def lets_passes(web, start, thing):
    """What stays by the passes, the end; refuses what is the passes of no sure rule."""
    require_load(web, start, "start")
    if not is_load(size_of(web), thing):
        raise InvalidPaper("load", -1)
    fault = passes_fault(web, start, thing)
    if fault is not None:
        raise InvalidPaper(fault[0], fault[1])
    return end_after(web, start, thing)
