"""What stands on places of no closed lot, solved without fractions."""

from stayorgo.arrows import lots_within
from stayorgo.kinds import is_set
from stayorgo.loads import load_from
from stayorgo.usable import require, require_load, require_places, size_of


def eliminated(rows, at, last):
    """The rows with column number at cleared from all rows but its own."""
    pivot = rows[at][at]
    return [
        row if i == at else [(pivot * row[k] - row[at] * rows[at][k]) // last for k in range(len(row))]
        for i, row in enumerate(rows)
    ]


def solved(matrix, right):
    """The pair (tops, bottom) with, for each i, the sum over k of matrix[i][k] times tops[k] / bottom being right[i].

    The matrix is the web's bottom at the diagonal less the numbers of the web, on places that hold no closed lot.
    """
    # Of such a matrix each leading minor is above 0: no pivot is 0, no rows change places, and each division by the
    # last pivot comes out even.
    rows = [[*row, right[i]] for i, row in enumerate(matrix)]
    last = 1
    for at in range(len(rows)):
        rows = eliminated(rows, at, last)
        last = rows[at][at]
    return ([row[-1] for row in rows], last)


def going_matrix(web, places):
    """The web's bottom at the diagonal less the numbers of the web: a row for the steps from each of the places."""
    rows, bottom = web
    return [[(bottom if i == j else 0) - rows[i][j] for j in places] for i in places]


def coming_matrix(web, places):
    """The web's bottom at the diagonal less the numbers of the web: a row for the steps to each of the places."""
    rows, bottom = web
    return [[(bottom if i == j else 0) - rows[i][j] for i in places] for j in places]


def flow_on(web, places, tops, bottom):
    """The load y on places that is at each of them tops / bottom + y stepped; tops may be below 0, y is not."""
    found, under = solved(coming_matrix(web, places), [web[1] * tops[j] for j in places])
    flow = dict(zip(places, found))
    return load_from([flow.get(i, 0) for i in range(size_of(web))], under * bottom)


def is_left(web, places):
    """Whether no closed lot lies within places."""
    require_places(web, places, "places")
    return not lots_within(web, places)


def visits_in(web, places, start):
    """The load v on places that is at each of them start + v stepped."""
    require(is_set(size_of(web), places) and not lots_within(web, places), "places")
    require_load(web, start, "start")
    return flow_on(web, places, start[0], start[1])
