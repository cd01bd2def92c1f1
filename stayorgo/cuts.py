"""Places cut out of a web, of loads, and passes filled back."""

from stayorgo.arrows import lots_within
from stayorgo.kinds import is_load, is_set
from stayorgo.loads import load_from
from stayorgo.solving import flow_on
from stayorgo.stepping import come_to
from stayorgo.usable import require, require_load, size_of
from stayorgo.webmaking import row_of, web_from


def can_cut(web, thing):
    """Whether thing is a set of places that holds no closed lot."""
    return is_set(size_of(web), thing) and not lots_within(web, thing)


def others_of(web, places):
    """The set of the places that are not in places."""
    return tuple([place for place in range(size_of(web)) if place not in places])


def cut_out_of(web, places, load):
    """What the load comes to at the other places, when it is there for the first time."""
    tops, bottom = come_to(web, load, flow_on(web, places, load[0], load[1]))
    return load_from([tops[place] for place in others_of(web, places)], bottom)


def cut_web(web, places):
    """The web in which each walk goes on until it is at one of the other places."""
    require(can_cut(web, places), "places")
    return web_from([cut_out_of(web, places, row_of(web, place)) for place in others_of(web, places)])


def cut_load(web, places, start):
    """The start with what stands at places led on to the other ones."""
    require(can_cut(web, places), "places")
    require_load(web, start, "start")
    return cut_out_of(web, places, start)


def filled_back(web, places, start, passes):
    """The passes of the web of which the passes of the cut web are those at the other places."""
    require(can_cut(web, places), "places")
    require_load(web, start, "start")
    others = others_of(web, places)
    require(is_load(len(others), passes), "passes")
    known = dict(zip(others, passes[0]))
    ahead = load_from([known.get(place, 0) for place in range(size_of(web))], passes[1])
    comes = come_to(web, start, ahead)
    back = flow_on(web, places, comes[0], comes[1])
    return load_from(
        [back[0][i] * ahead[1] if i in places else ahead[0][i] * back[1] for i in range(size_of(web))],
        ahead[1] * back[1],
    )
