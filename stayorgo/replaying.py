"""Live houses made of logs."""

from stayorgo.live import LiveHouse
from stayorgo.liveevents import is_log
from stayorgo.usable import require


def replayed(log):
    """A new live house after the events of the log."""
    require(is_log(log), "log")
    house = LiveHouse(log[0])
    house.do_all(log[1])
    return house
