"""Papers that show that walkers come to rest, or that they never do."""

from stayorgo.errors import InvalidPaper
from stayorgo.kinds import is_set
from stayorgo.roompapers import is_paper
from stayorgo.sending import arrows_after, require_seats, sent_along
from stayorgo.settlings import overfull_places, sent_out, spare_walkers
from stayorgo.walkerkinds import are_places


def walker_paper(rows, walkers, seats):
    """The paper ("ends", way) or ("never", way, places)."""
    require_seats(rows, walkers, seats)
    way, _, _, stuck = sent_out(rows, walkers, seats)
    return ("ends", way) if stuck is None else ("never", way, stuck)


def never_fault(rows, seats, sends, standing, places):
    """The word and the position of the first fault of the places of a paper ("never", way, places), or None."""
    if not is_set(len(rows), places):
        return ("places", 2)
    if any([i in places and j not in places for i, j in arrows_after(rows, sends)]):
        return ("open", 2)
    return ("held", 2) if spare_walkers(standing, seats, places) <= 0 else None


def walker_fault(rows, walkers, seats, thing):
    """The word and the position of the first fault of thing as a paper, or None."""
    if not (is_paper(thing, "ends", 2) or is_paper(thing, "never", 3)):
        return ("shape", -1)
    if not are_places(len(rows), thing[1]):
        return ("way", 1)
    many, sends, standing = sent_along(rows, walkers, seats, thing[1])
    if many < len(thing[1]):
        return ("overfull", many)
    if thing[0] == "never":
        return never_fault(rows, seats, sends, standing, thing[2])
    return ("still", -1) if overfull_places(standing, seats) else None


def lets_walkers(rows, walkers, seats, thing):
    """Whether the walkers come to rest, as the accepted paper shows."""
    require_seats(rows, walkers, seats)
    fault = walker_fault(rows, walkers, seats, thing)
    if fault is not None:
        raise InvalidPaper(fault[0], fault[1])
    return thing[0] == "ends"
