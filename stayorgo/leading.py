"""One walker led by dice."""

from stayorgo.brinks import are_brinks, is_brinks
from stayorgo.coins import are_coins, is_coins
from stayorgo.kinds import is_amount, is_below, is_pair
from stayorgo.quotients import is_less
from stayorgo.usable import require, require_number, require_place, size_of


def is_die(thing):
    """Whether thing is a die."""
    return is_amount(thing) and is_less(thing, (1, 1))


def require_die(die):
    """die is a die."""
    require(is_die(die), "die")


def is_early(brink, moment, die):
    """Whether what comes at the moment counts, by the die, as coming before the brink."""
    if brink is None or moment < brink[0]:
        return True
    return moment == brink[0] and is_less(die, brink[1])


def require_brink_word(brinks, place, many, die):
    """brinks are brinks of a size, place is below it, many is a number, die is a die."""
    require(are_brinks(brinks) and len(brinks) > 0, "brinks")
    require(is_below(len(brinks), place), "place")
    require_number(many, "many")
    require_die(die)


def go_word(brinks, place, many, die):
    """What the brinks as a go table say at the place, at the moment many, the word "go" or the word "stay"."""
    require_brink_word(brinks, place, many, die)
    return "go" if is_early(brinks[place], many, die) else "stay"


def stay_word(brinks, place, many, die):
    """What the brinks as a stay table say at the place, at the moment many, the word "go" or the word "stay"."""
    require_brink_word(brinks, place, many, die)
    return "stay" if is_early(brinks[place], many, die) else "go"


def coin_word(coins, place, die):
    """What the coins say at the place, the word "go" or the word "stay"."""
    require(are_coins(coins) and len(coins) > 0, "coins")
    require(is_below(len(coins), place), "place")
    require_die(die)
    return "stay" if is_less(die, coins[place]) else "go"


def next_by(web, place, die):
    """The least place such that the die is below the sum of the chances from place to those up to it."""
    row, bottom = web[0][place], web[1]
    reached = [j for j in range(len(row)) if die[0] * bottom < sum(row[:j + 1]) * die[1]]
    return reached[0]


def arrow_by(web, place, die):
    """The least place such that the die is below the sum of the chances from place to those up to it."""
    require_place(web, place, "place")
    require_die(die)
    return next_by(web, place, die)


def are_dice(thing):
    """Whether thing is a tuple of pairs of dice."""
    return isinstance(thing, tuple) and all([is_pair(pair) and is_die(pair[0]) and is_die(pair[1]) for pair in thing])


def word_by(manner, marks, place, moment, die):
    """What the marks say at the place, at the moment."""
    if manner == "go":
        return go_word(marks, place, moment, die)
    if manner == "stay":
        return stay_word(marks, place, moment, die)
    return coin_word(marks, place, die)


def led(web, manner, marks, place, dice):
    """The pair (way, stays) of a walker who begins at the place."""
    size = size_of(web)
    require(manner in ("go", "stay", "coin"), "manner")
    require(is_coins(size, marks) if manner == "coin" else is_brinks(size, marks), "marks")
    require_place(web, place, "place")
    require(are_dice(dice), "dice")
    way = [place]
    for moment, (first, second) in enumerate(dice):
        if word_by(manner, marks, way[-1], moment, first) == "stay":
            return (tuple(way), True)
        way.append(next_by(web, way[-1], second))
    return (tuple(way), False)
