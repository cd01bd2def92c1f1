"""Whether values are events, or logs, of live houses."""

from stayorgo.kinds import is_amount, is_below, is_number, is_pair
from stayorgo.usable import size_of
from stayorgo.webchecker import is_web

WORDS = ("come", "room", "leave")


def is_any_event(thing):
    """Whether thing is an event of any size."""
    if not (isinstance(thing, tuple) and len(thing) == 3 and thing[0] in WORDS):
        return False
    return is_number(thing[1]) and is_amount(thing[2])


def is_event(size, thing):
    """Whether thing is an event of the size."""
    return is_any_event(thing) and is_below(size, thing[1])


def are_events(size, thing):
    """Whether thing is a tuple of events of the size."""
    return isinstance(thing, tuple) and all([is_event(size, event) for event in thing])


def is_log(thing):
    """Whether thing is a pair of a web and a tuple of events of its size."""
    return is_pair(thing) and is_web(thing[0]) and are_events(size_of(thing[0]), thing[1])
