"""Walkers sent until no place is overfull, or until it shows that this never comes."""

from stayorgo.errors import Endless
from stayorgo.hopes import subsets_of
from stayorgo.sending import after_send, arrows_after, require_seats


def overfull_places(standing, seats):
    """The set of the places at which more walkers stand than they have seats."""
    return tuple([place for place in range(len(seats)) if standing[place] > seats[place]])


def led_to(arrows, begins):
    """The set of all places to which the arrows lead from those of begins, with these."""
    held = ()
    wider = begins
    while held != wider:
        held = wider
        wider = tuple(sorted(set(held) | {j for i, j in arrows if i in held}))
    return held


def spare_walkers(standing, seats, places):
    """By how many there are more walkers than seats at the places."""
    return sum([standing[place] - seats[place] for place in places])


def stuck_places(rows, sends, standing, seats):
    """A set with more walkers than seats that no arrow still to come leaves, or None."""
    arrows = arrows_after(rows, sends)
    # Of the sets that no such arrow leaves, with just these of the overfull places in them, those are best that hold
    # nothing more than what these lead to.
    lots = []
    for place in overfull_places(standing, seats):
        lot = led_to(arrows, (place,))
        if lot not in lots:
            lots.append(lot)
    for chosen in subsets_of(list(range(len(lots)))):
        places = tuple(sorted({place for k in chosen for place in lots[k]}))
        if spare_walkers(standing, seats, places) > 0:
            return places
    return None


def sent_out(rows, walkers, seats):
    """The quadruple (way, sends, standing, stuck) after a walker course; stuck is None if it has ended."""
    way = []
    sends = (0,) * len(rows)
    standing = walkers
    while overfull_places(standing, seats):
        stuck = stuck_places(rows, sends, standing, seats)
        if stuck is not None:
            return (tuple(way), sends, standing, stuck)
        # The place that has sent least is next: so no place waits while others go round and round.
        place = sorted([(sends[place], place) for place in overfull_places(standing, seats)])[0][1]
        way.append(place)
        sends, standing = after_send(rows, sends, standing, place)
    return (tuple(way), sends, standing, None)


def settle(rows, walkers, seats):
    """The pair (sends, standing) after an ended walker course."""
    require_seats(rows, walkers, seats)
    _, sends, standing, stuck = sent_out(rows, walkers, seats)
    if stuck is not None:
        raise Endless(stuck)
    return (sends, standing)


def some_course(rows, walkers, seats):
    """Any ended walker course."""
    require_seats(rows, walkers, seats)
    way, _, _, stuck = sent_out(rows, walkers, seats)
    if stuck is not None:
        raise Endless(stuck)
    return way
