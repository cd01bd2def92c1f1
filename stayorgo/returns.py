"""Returns: by how much more often than by the shares a walk from one place is at another one."""

from stayorgo.backwards import all_shares, require_one_lot
from stayorgo.kinds import is_spread
from stayorgo.loads import common_multiple, entry_of, weight_of
from stayorgo.quotients import minus, plus, reduced, times
from stayorgo.solving import going_matrix, solved
from stayorgo.tables import sure_table
from stayorgo.usable import require, size_of


def needs_into(web, there):
    """For each place the need from it to there; the web is one closed lot."""
    others = [place for place in range(size_of(web)) if place != there]
    found, bottom = solved(going_matrix(web, others), [web[1]] * len(others))
    needs = dict(zip(others, found))
    return [reduced(needs.get(place, 0), bottom) for place in range(size_of(web))]


def mean_by(shares, quotients):
    """The mean of the quotients by the shares."""
    total = (0, 1)
    for place, quotient in enumerate(quotients):
        total = plus(total, times(entry_of(shares, place), quotient))
    return total


def return_column(web, shares, there):
    """For each place g from it to there."""
    # How much sooner a walk from the place is at there than one from the shares, as often as there is come to.
    needs = needs_into(web, there)
    mean = mean_by(shares, needs)
    return [times(entry_of(shares, there), minus(mean, need)) for need in needs]


def return_columns(web):
    """For each place the list of g from all places to it."""
    shares = all_shares(web)
    return [return_column(web, shares, there) for there in range(size_of(web))]


def returns_of(web):
    """The pair (rows, bottom) of g, in lowest terms."""
    require_one_lot(web)
    columns = return_columns(web)
    # The quotients are in lowest terms, so nothing is common to the least multiple of their bottoms and all numbers.
    bottom = common_multiple([under for column in columns for _, under in column])
    rows = [[column[i][0] * (bottom // column[i][1]) for column in columns] for i in range(len(columns))]
    return (tuple([tuple(row) for row in rows]), bottom)


def need_from(web, start, wish):
    """The need of the wish, both being spreads."""
    return weight_of(sure_table(web, start, wish))


def need_by(web, start, wish):
    """The need of the wish, both being spreads."""
    require_one_lot(web)
    require(is_spread(size_of(web), start), "start")
    require(is_spread(size_of(web), wish), "wish")
    return need_from(web, start, wish)
