"""Machines made of two: one behind the other, and one or the other by chance."""

from stayorgo.coins import are_coins
from stayorgo.kinds import common_divisor
from stayorgo.machinechecker import is_machine
from stayorgo.usable import require


def lowest_machine(firsts, goes, bottom):
    """The machine of these numbers over the bottom, in lowest terms; goes has a list of rows for each memory."""
    common = common_divisor([bottom, *firsts] + [number for rows in goes for row in rows for number in row])
    return (
        tuple([first // common for first in firsts]),
        tuple([tuple([tuple([number // common for number in row]) for row in rows]) for rows in goes]),
        bottom // common,
    )


def times_all(row, factor):
    """The list of the numbers of the row, each times the factor."""
    return [number * factor for number in row]


def require_two_machines(size, one, other):
    """one and other are machines of the size."""
    require(is_machine(size, one), "one")
    require(is_machine(size, other), "other")


def begun_row(other, place):
    """What goes on at the place, with each memory, where other begins; over the square of its bottom."""
    firsts, goes, _ = other
    memories = range(len(firsts))
    return [sum([firsts[s] * goes[s][place][q] for s in memories]) for q in memories]


def behind(size, one, other):
    """The machine by which other begins with what one lets stay."""
    require_two_machines(size, one, other)
    square = other[2] * other[2]
    begun = [begun_row(other, place) for place in range(size)]
    # What one lets stay goes on by other, at once.
    ahead = [
        [times_all(row, square) + times_all(begun[place], one[2] - sum(row)) for place, row in enumerate(rows)]
        for rows in one[1]
    ]
    after = [[[0] * len(one[0]) + times_all(row, one[2] * other[2]) for row in rows] for rows in other[1]]
    return lowest_machine(times_all(one[0], square) + [0] * len(other[0]), ahead + after, one[2] * square)


def mixed(size, one, other, part):
    """The machine that goes by one with the chance part, else by other."""
    require_two_machines(size, one, other)
    require(are_coins((part,)), "part")
    firsts = times_all(one[0], part[0] * other[2]) + times_all(other[0], (part[1] - part[0]) * one[2])
    ahead = [[times_all(row, part[1] * other[2]) + [0] * len(other[0]) for row in rows] for rows in one[1]]
    after = [[[0] * len(one[0]) + times_all(row, part[1] * one[2]) for row in rows] for rows in other[1]]
    return lowest_machine(firsts, ahead + after, part[1] * one[2] * other[2])
