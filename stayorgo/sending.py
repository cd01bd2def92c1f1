"""Walkers sent by arrows written ahead."""

from stayorgo.kinds import are_numbers, is_below, is_number
from stayorgo.usable import require
from stayorgo.walkerkinds import are_places, is_walkers


def require_walkers(rows, walkers):
    """walkers are walkers of the size of the rows."""
    require(is_walkers(len(rows), walkers), "walkers")


def require_seats(rows, walkers, seats):
    """walkers and seats are of the size of the rows."""
    require_walkers(rows, walkers)
    require(is_walkers(len(rows), seats), "seats")


def arrow_at(rows, place, many):
    """The place to which arrow number many of the place leads."""
    ahead, loop = rows[place]
    return ahead[many] if many < len(ahead) else loop[(many - len(ahead)) % len(loop)]


def arrows_after(rows, sends):
    """The set of all pairs (i, j) such that, after the sends, an arrow from i to j is still to come."""
    # Those of ahead are used up in turn, those of the loop never.
    return tuple(sorted({
        (i, j) for i in range(len(rows)) for j in rows[i][0][sends[i]:] + rows[i][1]
    }))


def changed_at(numbers, place, more):
    """The numbers with more added at the place."""
    return numbers[:place] + (numbers[place] + more,) + numbers[place + 1:]


def after_send(rows, sends, standing, place):
    """The pair (sends, standing) after one more send, from the place."""
    gone = changed_at(standing, place, -1)
    return (changed_at(sends, place, 1), changed_at(gone, arrow_at(rows, place, sends[place]), 1))


def sent_along(rows, walkers, least, way):
    """The triple (many, sends, standing) after the way, or after the many sends of it that can be done.

    A place can send while more walkers stand there than least has.
    """
    sends = (0,) * len(rows)
    standing = walkers
    for many, place in enumerate(way):
        if standing[place] <= least[place]:
            return (many, sends, standing)
        sends, standing = after_send(rows, sends, standing, place)
    return (len(way), sends, standing)


def standing_after(rows, walkers, way):
    """The pair (sends, standing) after the way, by which places need not be overfull."""
    require_walkers(rows, walkers)
    require(are_places(len(rows), way), "way")
    many, sends, standing = sent_along(rows, walkers, (0,) * len(rows), way)
    require(many == len(way), "way")
    return (sends, standing)


def is_walker_course(rows, walkers, seats, way):
    """Whether the way is a walker course."""
    require_seats(rows, walkers, seats)
    require(are_places(len(rows), way), "way")
    return sent_along(rows, walkers, seats, way)[0] == len(way)


def arrows_to_come(rows, sends):
    """The set of all pairs (i, j) such that, after the sends, an arrow from i to j is still to come."""
    require(are_numbers(len(rows), sends), "sends")
    return arrows_after(rows, sends)


def row_arrow(rows, place, many):
    """The place to which arrow number many of the place leads."""
    require(is_below(len(rows), place), "place")
    require(is_number(many), "many")
    return arrow_at(rows, place, many)
