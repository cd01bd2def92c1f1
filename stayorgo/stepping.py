"""Loads stepped by a web, and the shares of closed lots."""

from stayorgo.arrows import require_closed
from stayorgo.loads import added, load_from, scaled, unit_load, weight_of
from stayorgo.quotients import over
from stayorgo.solving import flow_on
from stayorgo.usable import require_load, require_number, size_of
from stayorgo.webmaking import row_of


def step_of(web, load):
    """The load stepped."""
    rows, bottom = web
    places = range(size_of(web))
    return load_from([sum([load[0][i] * rows[i][j] for i in places]) for j in places], load[1] * bottom)


def come_to(web, start, passes):
    """What comes to the places in all: start + passes stepped."""
    return added(start, step_of(web, passes))


def course_of(web, start, many):
    """The list of start stepped 0, 1, .., many times."""
    course = [start]
    for _ in range(many):
        course.append(step_of(web, course[-1]))
    return course


def stepped(web, start):
    """start stepped."""
    require_load(web, start, "start")
    return step_of(web, start)


def walked(web, start, many):
    """start stepped many times over."""
    require_load(web, start, "start")
    require_number(many, "many")
    return course_of(web, start, many)[-1]


def step_course(web, start, many):
    """The loads that are start stepped 0, 1, .., many times."""
    require_load(web, start, "start")
    require_number(many, "many")
    return tuple(course_of(web, start, many))


def shares_on(web, lot):
    """The shares of the closed lot."""
    first = lot[0]
    tops, bottom = row_of(web, first)
    # With 1 at the first place what its steps bring to the others goes round until it is back there.
    others = flow_on(web, lot[1:], tops, bottom)
    visits = added(unit_load(size_of(web), first), others)
    return scaled(visits, over((1, 1), weight_of(visits)))


def shares_of(web, closed):
    """The shares of closed, a load of the web's size."""
    require_closed(web, closed)
    return shares_on(web, closed)
