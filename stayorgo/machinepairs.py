"""Pairs of a memory and a place: to which of them something comes by a machine, and where it can stay."""

from stayorgo.arrows import next_places, reached_by
from stayorgo.loads import load_from, places_of, unit_load
from stayorgo.machinechecker import is_machine
from stayorgo.usable import require, require_load, size_of
from stayorgo.webmaking import web_from


def require_machine(web, start, machine):
    """start is a load, machine a machine of the web's size."""
    require_load(web, start, "start")
    require(is_machine(size_of(web), machine), "machine")


def pair_row(web, machine, memory, place):
    """Where what stands at the place with the memory is a moment later: at each pair, and what stays."""
    rows, under = web
    _, goes, bottom = machine
    steps = [number * chance for number in goes[memory][place] for chance in rows[place]]
    return load_from(steps + [(bottom - sum(goes[memory][place])) * under], bottom * under)


def pair_web(web, machine):
    """The web whose places are all pairs, ascending, and behind them one place that keeps what stays."""
    places = range(size_of(web))
    rows = [pair_row(web, machine, memory, place) for memory in range(len(machine[0])) for place in places]
    return web_from(rows + [unit_load(len(rows) + 1, len(rows))])


def pair_start(start, machine):
    """What stands at the pairs at moment 0, as a load for the web of pairs."""
    firsts, _, bottom = machine
    return load_from([first * top for first in firsts for top in start[0]] + [0], bottom * start[1])


def coming_pairs(wide, begin):
    """The numbers of the pairs to which something comes, in the web of pairs."""
    keeper = size_of(wide) - 1
    return tuple([number for number in reached_by(wide, places_of(begin)) if number != keeper])


def leading_to(wide, numbers, aims):
    """The set of those of the numbers that are in aims, or from which an arrow leads there."""
    return tuple([
        number for number in numbers if number in aims or any([j in aims for j in next_places(wide, number)])
    ])


def staying_numbers(wide, numbers):
    """The set of those of the numbers of pairs at which something stays."""
    return leading_to(wide, numbers, (size_of(wide) - 1,))


def stuck_numbers(wide, numbers):
    """The set of those of the numbers of pairs that are led to nothing that stays."""
    held = ()
    wider = staying_numbers(wide, numbers)
    while held != wider:
        held = wider
        wider = leading_to(wide, numbers, held)
    return tuple([number for number in numbers if number not in held])


def as_pairs(web, numbers):
    """The pairs with these numbers."""
    return tuple([divmod(number, size_of(web)) for number in numbers])


def pairs_of(web, start, machine):
    """All pairs to which something comes, ascending."""
    require_machine(web, start, machine)
    return as_pairs(web, coming_pairs(pair_web(web, machine), pair_start(start, machine)))


def staying_pairs(web, start, machine):
    """The pairs to which something comes, and at which some of it stays."""
    require_machine(web, start, machine)
    wide = pair_web(web, machine)
    return as_pairs(web, staying_numbers(wide, coming_pairs(wide, pair_start(start, machine))))


def stuck_of(web, start, machine):
    """The pairs to which something comes, and from which nothing that stays is come to."""
    wide = pair_web(web, machine)
    return as_pairs(web, stuck_numbers(wide, coming_pairs(wide, pair_start(start, machine))))


def stuck_pairs(web, start, machine):
    """The pairs to which something comes, and from which nothing that stays is come to."""
    require_machine(web, start, machine)
    return stuck_of(web, start, machine)


def is_sure(web, start, machine):
    """Whether the machine is sure for the start."""
    return stuck_pairs(web, start, machine) == ()
