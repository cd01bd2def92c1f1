"""Places in another sequence."""

from stayorgo.kinds import is_below, is_load
from stayorgo.usable import require, size_of


def is_order(size, thing):
    """Whether thing is an order of the size."""
    if not (isinstance(thing, tuple) and all([is_below(size, number) for number in thing])):
        return False
    return sorted(thing) == list(range(size))


def turned(order):
    """For each new place the old one."""
    return tuple([order.index(place) for place in range(len(order))])


def renamed_web(web, order):
    """The web in which what was place i is place order[i]."""
    require(is_order(size_of(web), order), "order")
    old = turned(order)
    return (tuple([tuple([web[0][i][j] for j in old]) for i in old]), web[1])


def renamed_load(size, order, load):
    """The load in which what was at place i is at place order[i]."""
    require(is_order(size, order), "order")
    require(is_load(size, load), "load")
    return (tuple([load[0][i] for i in turned(order)]), load[1])


def turned_order(size, order):
    """The order that leads back."""
    require(is_order(size, order), "order")
    return turned(order)
