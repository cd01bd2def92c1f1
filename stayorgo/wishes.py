"""Wishes: loads of the start's weight that can be come to."""

from stayorgo.kinds import is_load
from stayorgo.loads import weight_of
from stayorgo.tables import has_table, sure_table
from stayorgo.usable import require, require_load, size_of


def is_as_heavy(web, load, thing):
    """Whether thing is a load of the web's size and of load's weight."""
    return is_load(size_of(web), thing) and weight_of(thing) == weight_of(load)


def require_wish(web, start, wish):
    """start is a load of the web's size, wish one of the start's weight."""
    require_load(web, start, "start")
    require(is_as_heavy(web, start, wish), "wish")


def is_wish(web, start, thing):
    """Whether thing is a wish for the start."""
    require_load(web, start, "start")
    return is_as_heavy(web, start, thing) and has_table(web, start, thing)


def wish_table(web, start, wish):
    """The table of the wish."""
    require_wish(web, start, wish)
    return sure_table(web, start, wish)


def wish_need(web, start, wish):
    """The weight of the table of the wish."""
    return weight_of(wish_table(web, start, wish))
