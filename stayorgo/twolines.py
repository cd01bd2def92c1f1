"""The web of two lines, and prices by the clock alone."""

from stayorgo.loads import are_amounts, load_from, load_of, unit_load
from stayorgo.quotients import is_less
from stayorgo.usable import require, require_number
from stayorgo.webmaking import web_from


def two_lines(many):
    """The triple (web, start, wish) in which a price that falls, or rises, at the moment many makes a difference."""
    require_number(many, "many")
    size = many + 3
    web = web_from([unit_load(size, min(place + 1, size - 1)) for place in range(size)])
    start = load_from([1, 1] + [0] * (size - 2), 2)
    wish = load_from([0] * (size - 2) + [1, 1], 2)
    return (web, start, wish)


def first_fall(numbers):
    """The least t such that numbers[t + 1] is less than numbers[t], or None."""
    require(are_amounts(numbers), "numbers")
    falls = [t for t in range(len(numbers) - 1) if is_less(numbers[t + 1], numbers[t])]
    return falls[0] if falls else None


def first_rise(numbers):
    """The least t such that numbers[t + 1] is more than numbers[t], or None."""
    require(are_amounts(numbers), "numbers")
    rises = [t for t in range(len(numbers) - 1) if is_less(numbers[t], numbers[t + 1])]
    return rises[0] if rises else None


def alike_prices(size, numbers):
    """The prices that are at each place each of the numbers in turn."""
    require(are_amounts(numbers), "numbers")
    return tuple([load_of((number,) * size) for number in numbers])
