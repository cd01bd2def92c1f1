"""Machines made: of waits, coins, brinks."""

from stayorgo.brinkcourses import early_shares, late_shares
from stayorgo.brinkends import moments_of
from stayorgo.brinks import are_brinks
from stayorgo.coins import are_coins, goes_by_coins
from stayorgo.loads import common_multiple
from stayorgo.usable import require, require_number


def machine_from(size, shares):
    """The machine that begins with memory 0.

    shares has for each memory, and each place, the share that goes on: with the next memory, from the last one with
    the last one.
    """
    many = len(shares)
    bottom = common_multiple([under for row in shares for _, under in row])
    tops = [[top * (bottom // under) for top, under in row] for row in shares]
    nexts = [min(memory + 1, many - 1) for memory in range(many)]
    goes = tuple([
        tuple([tuple([tops[s][i] if q == nexts[s] else 0 for q in range(many)]) for i in range(size)])
        for s in range(many)
    ])
    return ((bottom,) + (0,) * (many - 1), goes, bottom)


def waits_machine(size, many):
    """The machine by which all goes on many times, and stays then."""
    require_number(many, "many")
    return machine_from(size, [[(1, 1)] * size] * many + [[(0, 1)] * size])


def coin_machine(coins):
    """The machine of one memory by which the coins stay."""
    require(are_coins(coins) and len(coins) > 0, "coins")
    return machine_from(len(coins), [goes_by_coins(coins)])


def require_any_brinks(brinks):
    """brinks are brinks of any size."""
    require(are_brinks(brinks) and len(brinks) > 0, "brinks")


def go_machine(brinks):
    """The machine of the brinks as a go table: its memories are the moments, and one more for all later ones."""
    require_any_brinks(brinks)
    return machine_from(len(brinks), early_shares(brinks, moments_of(brinks) + 1))


def stay_machine(brinks):
    """The machine of the brinks as a stay table: its memories are the moments, and one more for all later ones."""
    require_any_brinks(brinks)
    return machine_from(len(brinks), late_shares(brinks, moments_of(brinks) + 1))
