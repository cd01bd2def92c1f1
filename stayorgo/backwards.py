"""Webs that are one closed lot, and such webs backward."""

from stayorgo.arrows import closed_lots
from stayorgo.loads import load_from
from stayorgo.stepping import shares_on
from stayorgo.usable import require, size_of
from stayorgo.webmaking import web_from


def all_places(web):
    """The set of all places of the web."""
    return tuple(range(size_of(web)))


def is_one_lot(web):
    """Whether all places of the web are one closed lot."""
    return closed_lots(web) == (all_places(web),)


def require_one_lot(web):
    """web is one closed lot."""
    require(is_one_lot(web), "web")


def all_shares(web):
    """The shares of a web that is one closed lot."""
    return shares_on(web, all_places(web))


def backward(web):
    """The web in which the steps go back, each as often as it is taken in web."""
    require_one_lot(web)
    tops = all_shares(web)[0]
    rows, bottom = web
    places = range(size_of(web))
    return web_from([load_from([tops[j] * rows[j][i] for j in places], tops[i] * bottom) for i in places])
