"""The lines of machines, written and read."""

from stayorgo.errors import InvalidRow, InvalidText
from stayorgo.machinechecker import is_machine
from stayorgo.usable import require
from stayorgo.webtexts import numbers_line, state_after


def form_fault_of(text):
    """The first position at which text leaves the form, its length if it ends too soon, None if it has the form."""
    state = "start"
    marks = ",:"
    for at, sign in enumerate(text):
        # Rows, and the bottom behind them, come only after the first colon.
        if sign == "/" and marks == ",:":
            return at
        state = state_after(state, sign, marks)
        if state == "":
            return at
        if sign == ":":
            marks = ",:;"
    return None if state == "bottom" else len(text)


def numbers_of(word):
    """The tuple of the numbers with a comma between them."""
    return tuple([int(number) for number in word.split(",")])


def machine_in(text):
    """The triple (firsts, goes, bottom) of a text that has the form."""
    head, _, tail = text.partition("/")
    words = head.split(":")
    goes = tuple([tuple([numbers_of(row) for row in word.split(";")]) for word in words[1:]])
    return (numbers_of(words[0]), goes, int(tail))


def is_memory(size, many, bottom, rows):
    """Whether the rows are as many as the size, each one of so many numbers with a sum of at most the bottom."""
    return len(rows) == size and all([len(row) == many and sum(row) <= bottom for row in rows])


def wrong_line(size, thing):
    """The row for what is wrong with the triple, if anything but its terms is; else 1 + how many memories it has."""
    firsts, goes, bottom = thing
    if sum(firsts) != bottom or len(firsts) != len(goes):
        return 0
    wrong = [1 + s for s, rows in enumerate(goes) if not is_memory(size, len(firsts), bottom, rows)]
    return (wrong + [1 + len(goes)])[0]


def machine_line(size, machine):
    """The line of a machine."""
    require(is_machine(size, machine), "machine")
    firsts, goes, bottom = machine
    memories = [";".join([numbers_line(row) for row in rows]) for rows in goes]
    return ":".join([numbers_line(firsts)] + memories) + "/" + str(bottom)


def read_machine(size, text):
    """The machine of the size whose line text is."""
    require(isinstance(text, str), "text")
    at = form_fault_of(text)
    if at is not None:
        raise InvalidText(0, at)
    machine = machine_in(text)
    if not is_machine(size, machine):
        raise InvalidRow(wrong_line(size, machine))
    return machine
