"""Webs and loads lumped, and the coarsest lumping."""

from stayorgo.kinds import is_load
from stayorgo.loads import load_from
from stayorgo.lumpkinds import into_parts, is_lumping, is_parts
from stayorgo.usable import require, size_of
from stayorgo.webmaking import web_from


def parted(web, parts):
    """The parts, each divided into the sets of its places with the same chances to step into each part."""
    found = []
    for part in parts:
        alike = {}
        for place in part:
            alike.setdefault(into_parts(web, parts, place), []).append(place)
        found.extend([tuple(places) for places in list(alike.values())])
    return tuple(sorted(found))


def lumped_web(web, parts):
    """The web whose places are the parts of a lumping."""
    require(is_lumping(web, parts), "parts")
    return web_from([load_from(list(into_parts(web, parts, part[0])), web[1]) for part in parts])


def lumped_load(size, parts, load):
    """The load with, for each part, the sum over its places."""
    require(is_parts(size, parts), "parts")
    require(is_load(size, load), "load")
    return load_from([sum([load[0][place] for place in part]) for part in parts], load[1])


def coarsest(web, parts):
    """The lumping with the fewest parts, each of which lies within one of parts."""
    require(is_parts(size_of(web), parts), "parts")
    held = ()
    finer = parts
    while held != finer:
        held = finer
        finer = parted(web, held)
    return finer
