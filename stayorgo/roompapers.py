"""Papers that show that there is a table, or that there is none."""

from stayorgo.arrows import closed_lots, is_closed, is_fleeting
from stayorgo.errors import InvalidPaper
from stayorgo.gaps import gap_by
from stayorgo.growing import grown
from stayorgo.hopes import hope_past
from stayorgo.kinds import is_load
from stayorgo.loads import added, entry_of
from stayorgo.quotients import is_less
from stayorgo.stepping import come_to
from stayorgo.tables import gap_pair
from stayorgo.usable import require_rooms, size_of


def room_paper(web, start, rooms):
    """The paper ("table", the table) or ("gap", closed, barred)."""
    require_rooms(web, start, rooms)
    sets, passes = grown(web, start, rooms)
    if passes is None:
        closed, barred = gap_pair(web, sets[-1])
        return ("gap", closed, barred)
    return ("table", passes)


def is_paper(thing, word, many):
    """Whether thing is a tuple of so many values, the first one being the word."""
    return isinstance(thing, tuple) and len(thing) == many and thing[0] == word


def place_fault(passes, comes, full, place):
    """The word for what is wrong with the passes at place, or None; full is passes + rooms."""
    if passes[0][place] > 0:
        return "passed" if entry_of(comes, place) != entry_of(full, place) else None
    return "over" if is_less(entry_of(full, place), entry_of(comes, place)) else None


def table_fault(web, start, rooms, passes):
    """The word and the position of the first fault that passes have as the table, or None."""
    if not is_load(size_of(web), passes):
        return ("load", 1)
    comes = come_to(web, start, passes)
    full = added(passes, rooms)
    for place in range(size_of(web)):
        word = place_fault(passes, comes, full, place)
        if word is not None:
            return (word, place)
    for k, lot in enumerate(closed_lots(web)):
        if all([passes[0][place] > 0 for place in lot]):
            return ("lot", k)
    return None


def gap_fault(web, start, rooms, closed, barred):
    """The word and the position of the first fault of a gap paper, or None."""
    if not is_closed(web, closed):
        return ("closed", 1)
    if not is_fleeting(web, barred):
        return ("barred", 2)
    if gap_by(start, rooms, hope_past(web, closed, barred))[0] <= 0:
        return ("gap", -1)
    return None


def paper_fault(web, start, rooms, thing):
    """The word and the position of the first fault of thing as a paper, or None."""
    if is_paper(thing, "table", 2):
        return table_fault(web, start, rooms, thing[1])
    if is_paper(thing, "gap", 3):
        return gap_fault(web, start, rooms, thing[1], thing[2])
    return ("shape", -1)


def lets_room(web, start, rooms, thing):
    """Whether there is a table, as the accepted paper shows."""
    require_rooms(web, start, rooms)
    fault = paper_fault(web, start, rooms, thing)
    if fault is not None:
        raise InvalidPaper(fault[0], fault[1])
    return thing[0] == "table"
