"""Of which kind a value is: integers, quotients, loads, spreads, sets."""

from math import gcd


def common_divisor(numbers):
    """The greatest divisor common to all of the numbers."""
    found = 0
    for number in numbers:
        found = gcd(found, number)
    return found


def is_integer(thing):
    """Whether thing is an integer."""
    return isinstance(thing, int) and not isinstance(thing, bool)


def is_number(thing):
    """Whether thing is a number."""
    return is_integer(thing) and thing >= 0


def is_below(size, thing):
    """Whether thing is a number below size."""
    return is_number(thing) and thing < size


def is_bottom(thing):
    """Whether thing is an integer of at least 1."""
    return is_integer(thing) and thing >= 1


def is_pair(thing):
    """Whether thing is a tuple of two values."""
    return isinstance(thing, tuple) and len(thing) == 2


def are_numbers(many, thing):
    """Whether thing is a tuple of so many numbers."""
    return isinstance(thing, tuple) and len(thing) == many and all([is_number(number) for number in thing])


def is_quotient(thing):
    """Whether thing is a quotient."""
    return is_pair(thing) and is_integer(thing[0]) and is_bottom(thing[1]) and gcd(thing[0], thing[1]) == 1


def is_amount(thing):
    """Whether thing is a quotient of at least 0."""
    return is_quotient(thing) and thing[0] >= 0


def is_load(size, thing):
    """Whether thing is a load of the size."""
    if not (is_pair(thing) and are_numbers(size, thing[0]) and is_bottom(thing[1])):
        return False
    return common_divisor([*thing[0], thing[1]]) == 1


def is_spread(size, thing):
    """Whether thing is a spread of the size."""
    return is_load(size, thing) and sum(thing[0]) == thing[1]


def is_set(size, thing):
    """Whether thing is a set of numbers below size."""
    if not (isinstance(thing, tuple) and all([is_below(size, number) for number in thing])):
        return False
    return all([thing[k] < thing[k + 1] for k in range(len(thing) - 1)])
