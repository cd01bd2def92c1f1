"""Whether a value is the most passes."""

from stayorgo.arrows import closed_lots, fleeting_places, next_places
from stayorgo.compares import lesser_of
from stayorgo.ends import end_after
from stayorgo.errors import InvalidPaper
from stayorgo.kinds import is_load
from stayorgo.loads import entry_of
from stayorgo.mosts import require_allowance
from stayorgo.stepping import come_to
from stayorgo.usable import size_of


def comes_to_lot(web, start, passes, lot):
    """Whether something comes to the closed lot: a start in it, or an arrow from a passed fleeting place."""
    if any([start[0][place] > 0 for place in lot]):
        return True
    passed = [place for place in fleeting_places(web) if passes[0][place] > 0]
    return any([target in lot for place in passed for target in next_places(web, place)])


def lesser_fault(web, start, allowance, passes):
    """The first place at which passes are not the lesser one of the allowance and what comes there, or None."""
    lesser = lesser_of(allowance, come_to(web, start, passes))
    for place in range(size_of(web)):
        if entry_of(passes, place) != entry_of(lesser, place):
            return place
    return None


def idle_lot(web, start, passes):
    """The number of the first closed lot that is passed while nothing comes to it, or None."""
    for k, lot in enumerate(closed_lots(web)):
        if any([passes[0][place] > 0 for place in lot]) and not comes_to_lot(web, start, passes, lot):
            return k
    return None


def lets_most(web, start, allowance, thing):
    """The last end; refuses what is not the most passes."""
    require_allowance(web, start, allowance)
    if not is_load(size_of(web), thing):
        raise InvalidPaper("load", -1)
    place = lesser_fault(web, start, allowance, thing)
    if place is not None:
        raise InvalidPaper("lesser", place)
    lot = idle_lot(web, start, thing)
    if lot is not None:
        raise InvalidPaper("lot", lot)
    return end_after(web, start, thing)
