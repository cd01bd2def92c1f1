"""The lines of timetables, written and read."""

from stayorgo.errors import InvalidRow, InvalidText
from stayorgo.kinds import is_pair
from stayorgo.timechecker import is_timetable, timetable_fault
from stayorgo.usable import require
from stayorgo.webtexts import load_line, read_numbers, state_after


def is_any_timetable(thing):
    """Whether thing is a timetable of any size."""
    if not (isinstance(thing, tuple) and len(thing) > 0 and is_pair(thing[0]) and is_pair(thing[0][0])):
        return False
    tops = thing[0][0][0]
    return isinstance(tops, tuple) and len(tops) > 0 and is_timetable(len(tops), thing)


def times_fault(text):
    """The first position at which text leaves the form, its length if it ends too soon, None if it has the form."""
    state = "start"
    closer = "<"
    for at, sign in enumerate(text):
        if state == "bottom" and sign == closer:
            state = "start"
            closer = " " if closer == "<" else "<"
        else:
            state = state_after(state, sign, ",")
        if state == "":
            return at
    return None if state == "bottom" and closer == " " else len(text)


def load_in(text):
    """The pair (tops, bottom) of a text that has the form of the line of a load."""
    rows, bottom = read_numbers(text)
    return (rows[0], bottom)


def moment_in(text):
    """The pair (coming, rooms) of a text that has the form of the line of a moment."""
    coming, _, rooms = text.partition("<")
    return (load_in(coming), load_in(rooms))


def timetable_line(timetable):
    """The line of a timetable."""
    require(is_any_timetable(timetable), "timetable")
    return " ".join([load_line(coming) + "<" + load_line(rooms) for coming, rooms in timetable])


def read_timetable(text):
    """The timetable whose line text is."""
    require(isinstance(text, str), "text")
    at = times_fault(text)
    if at is not None:
        raise InvalidText(0, at)
    timetable = tuple([moment_in(part) for part in text.split(" ")])
    fault = timetable_fault(len(timetable[0][0][0]), timetable)
    if fault is not None:
        raise InvalidRow(fault[1])
    return timetable
