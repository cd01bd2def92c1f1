"""Whether a value is a machine."""

from stayorgo.errors import InvalidPaper
from stayorgo.kinds import are_numbers, common_divisor, is_bottom, is_number


def is_row_of(many, thing):
    """Whether thing is a tuple of so many values."""
    return isinstance(thing, tuple) and len(thing) == many


def are_firsts(thing, bottom):
    """Whether thing is a nonempty tuple of numbers whose sum is the bottom."""
    if not (isinstance(thing, tuple) and len(thing) > 0 and all([is_number(number) for number in thing])):
        return False
    return sum(thing) == bottom


def memory_fault(size, many, bottom, goes, memory):
    """The word and the position of the first fault in what goes on with the memory, or None."""
    if not is_row_of(size, goes[memory]):
        return ("memory", memory)
    for place in range(size):
        if not are_numbers(many, goes[memory][place]):
            return ("row", (memory, place))
        if sum(goes[memory][place]) > bottom:
            return ("sum", (memory, place))
    return None


def goes_fault(size, many, bottom, goes):
    """The word and the position of the first fault in what goes on, or None."""
    for memory in range(many):
        fault = memory_fault(size, many, bottom, goes, memory)
        if fault is not None:
            return fault
    return None


def machine_fault(size, thing):
    """The word and the position of the first fault that thing has as a machine of the size, or None."""
    if not is_row_of(3, thing):
        return ("shape", -1)
    firsts, goes, bottom = thing
    if not is_bottom(bottom):
        return ("bottom", 2)
    if not are_firsts(firsts, bottom):
        return ("firsts", 0)
    if not is_row_of(len(firsts), goes):
        return ("goes", 1)
    fault = goes_fault(size, len(firsts), bottom, goes)
    numbers = [number for rows in goes for row in rows for number in row] if fault is None else []
    if fault is None and common_divisor([bottom, *firsts] + numbers) != 1:
        return ("terms", -1)
    return fault


def lets_machine(size, thing):
    """How many memories the machine has; refuses what is no machine of the size."""
    fault = machine_fault(size, thing)
    if fault is not None:
        raise InvalidPaper(fault[0], fault[1])
    return len(thing[0])


def is_machine(size, thing):
    """Whether thing is a machine of the size."""
    return machine_fault(size, thing) is None
