"""Whether a value is a web."""

from stayorgo.errors import InvalidPaper
from stayorgo.kinds import are_numbers, common_divisor, is_bottom, is_pair


def rows_fault(rows, bottom):
    """The word and the number of the first row that is wrong, or None."""
    for i, row in enumerate(rows):
        if not are_numbers(len(rows), row):
            return ("row", i)
        if sum(row) != bottom:
            return ("sum", i)
    return None


def web_fault(thing):
    """The word and the position of the first fault that thing has as a web, or None."""
    if not is_pair(thing):
        return ("shape", -1)
    rows, bottom = thing
    if not is_bottom(bottom):
        return ("bottom", 1)
    if not (isinstance(rows, tuple) and len(rows) > 0):
        return ("rows", 0)
    fault = rows_fault(rows, bottom)
    if fault is None and common_divisor([bottom] + [number for row in rows for number in row]) != 1:
        return ("terms", -1)
    return fault


def lets_web(thing):
    """How many places the web has; refuses what is no web."""
    fault = web_fault(thing)
    if fault is not None:
        raise InvalidPaper(fault[0], fault[1])
    return len(thing[0])


def is_web(thing):
    """Whether thing is a web."""
    return web_fault(thing) is None
