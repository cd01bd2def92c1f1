"""What is asked of parameters: each function refuses the first one that is not as stated."""

from stayorgo.errors import NotUsable
from stayorgo.kinds import is_below, is_load, is_number, is_set


def require(holds, name):
    """Refuses the parameter of that name unless what is asked of it holds."""
    if not holds:
        raise NotUsable(name, -1)


def size_of(web):
    """How many places the web has."""
    return len(web[0])


def require_number(thing, name):
    """thing is a number."""
    require(is_number(thing), name)


def require_place(web, thing, name):
    """thing is a place of the web."""
    require(is_below(size_of(web), thing), name)


def require_places(web, thing, name):
    """thing is a set of places of the web."""
    require(is_set(size_of(web), thing), name)


def require_load(web, thing, name):
    """thing is a load of the web's size."""
    require(is_load(size_of(web), thing), name)


def require_rooms(web, start, rooms):
    """start and rooms are loads of the web's size."""
    require_load(web, start, "start")
    require_load(web, rooms, "rooms")


def require_alike(load, other):
    """other is a load of load's size."""
    require(is_load(len(load[0]), other), "other")
