"""The lines of loads and webs, written and read."""

from stayorgo.errors import InvalidRow, InvalidText
from stayorgo.kinds import is_load
from stayorgo.usable import require
from stayorgo.webchecker import is_web

DIGITS = "0123456789"


def numbers_line(numbers):
    """The numbers with a comma between them."""
    return ",".join([str(number) for number in numbers])


def load_line(load):
    """The line of a load."""
    return numbers_line(load[0]) + "/" + str(load[1])


def web_line(web):
    """The line of a web."""
    return ";".join([numbers_line(row) for row in web[0]]) + "/" + str(web[1])


def state_after(state, sign, marks):
    """What has been read once the sign follows the state; "" if no line goes on so.

    "start": a number must begin; "nought", "number": one ends, or may end; "slash": the bottom must begin; "bottom".
    """
    if state in ("nought", "number") and sign in marks:
        return "start"
    if state in ("nought", "number") and sign == "/":
        return "slash"
    if sign not in DIGITS:
        return ""
    if state in ("number", "bottom"):
        return state
    if state == "start":
        return "nought" if sign == "0" else "number"
    if state == "slash" and sign != "0":
        return "bottom"
    return ""


def form_fault(text, marks):
    """The first position at which text leaves the form, its length if it ends too soon, None if it has the form.

    The form: numbers with one of the marks between each two of them, "/", a bottom of at least 1.
    """
    state = "start"
    for at, sign in enumerate(text):
        state = state_after(state, sign, marks)
        if state == "":
            return at
    return None if state == "bottom" else len(text)


def require_form(text, marks):
    """Refuses what is no string, and a text that has not the form."""
    require(isinstance(text, str), "text")
    fault = form_fault(text, marks)
    if fault is not None:
        raise InvalidText(0, fault)


def read_numbers(text):
    """The pair (rows, bottom) of a text that has the form."""
    head, _, tail = text.partition("/")
    return (tuple([tuple([int(word) for word in row.split(",")]) for row in head.split(";")]), int(tail))


def read_load(text):
    """The load whose line text is."""
    require_form(text, ",")
    rows, bottom = read_numbers(text)
    load = (rows[0], bottom)
    if not is_load(len(rows[0]), load):
        raise InvalidRow(0)
    return load


def wrong_row(rows, bottom):
    """The first row with not as many numbers as there are rows, else with a wrong sum, else how many rows there are."""
    unlike = [i for i, row in enumerate(rows) if len(row) != len(rows)]
    wrong = [i for i, row in enumerate(rows) if sum(row) != bottom]
    return (unlike + wrong + [len(rows)])[0]


def read_web(text):
    """The web whose line text is."""
    require_form(text, ",;")
    web = read_numbers(text)
    if not is_web(web):
        raise InvalidRow(wrong_row(web[0], web[1]))
    return web
