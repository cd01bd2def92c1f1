"""Papers that show a deadline, or that there is none."""

from stayorgo.deadlines import done_moment
from stayorgo.errors import InvalidPaper
from stayorgo.kinds import is_number
from stayorgo.lastings import idle_ring_by
from stayorgo.rings import is_ring
from stayorgo.roompapers import is_paper
from stayorgo.tables import sure_table
from stayorgo.wishes import require_wish


def deadline_paper(web, start, wish):
    """The paper ("done", the deadline), or ("ring", an idle ring)."""
    require_wish(web, start, wish)
    table = sure_table(web, start, wish)
    ring = idle_ring_by(web, wish, table)
    return ("done", done_moment(web, wish, table)) if ring is None else ("ring", ring)


def done_fault(web, wish, table, thing):
    """The word and the position of the first fault of thing as the deadline, or None."""
    if not is_number(thing):
        return ("many", 1)
    # Where there is an idle ring the rest is above 0 at each moment.
    if idle_ring_by(web, wish, table) is not None:
        return ("later", 1)
    deadline = done_moment(web, wish, table)
    if thing < deadline:
        return ("later", 1)
    return ("sooner", 1) if thing > deadline else None


def ring_fault(web, wish, table, thing):
    """The word and the position of the first fault of thing as an idle ring, or None."""
    if not is_ring(web, thing):
        return ("ring", 1)
    for k, place in enumerate(thing):
        if wish[0][place] > 0:
            return ("wish", k)
        if table[0][place] == 0:
            return ("passed", k)
    return None


def deadline_fault(web, wish, table, thing):
    """The word and the position of the first fault of thing as a paper, or None."""
    if is_paper(thing, "done", 2):
        return done_fault(web, wish, table, thing[1])
    if is_paper(thing, "ring", 2):
        return ring_fault(web, wish, table, thing[1])
    return ("shape", -1)


def lets_deadline(web, start, wish, thing):
    """Whether there is a deadline, as the accepted paper shows."""
    require_wish(web, start, wish)
    fault = deadline_fault(web, wish, sure_table(web, start, wish), thing)
    if fault is not None:
        raise InvalidPaper(fault[0], fault[1])
    return thing[0] == "done"
