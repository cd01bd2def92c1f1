"""Whether a value is a timetable."""

from stayorgo.compares import is_within
from stayorgo.errors import InvalidPaper
from stayorgo.kinds import is_load, is_pair


def moment_fault(size, thing, moment):
    """The word for the first fault of a moment of thing, or None; the moments before have none."""
    if not is_pair(thing[moment]):
        return "pair"
    coming, rooms = thing[moment]
    if not is_load(size, coming):
        return "coming"
    if not is_load(size, rooms):
        return "rooms"
    return "closing" if moment > 0 and not is_within(thing[moment - 1][1], rooms) else None


def timetable_fault(size, thing):
    """The word and the moment of the first fault that thing has as a timetable of the size, or None."""
    if not (isinstance(thing, tuple) and len(thing) > 0):
        return ("shape", -1)
    for moment in range(len(thing)):
        word = moment_fault(size, thing, moment)
        if word is not None:
            return (word, moment)
    return None


def lets_timetable(size, thing):
    """How many moments the timetable has; refuses what is no timetable of the size."""
    fault = timetable_fault(size, thing)
    if fault is not None:
        raise InvalidPaper(fault[0], fault[1])
    return len(thing)


def is_timetable(size, thing):
    """Whether thing is a timetable of the size."""
    return timetable_fault(size, thing) is None
