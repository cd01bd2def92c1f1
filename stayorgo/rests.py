"""The rests of go-first with the table of a wish as allowance."""

from stayorgo.courses import over_of
from stayorgo.growing import grown
from stayorgo.loads import no_load
from stayorgo.stepping import step_of
from stayorgo.tables import sure_table
from stayorgo.usable import require_load, require_number, size_of
from stayorgo.wishes import require_wish


def rest_next(web, rest, wish):
    """At each place the greater one of 0 and rest stepped - wish."""
    return over_of(step_of(web, rest), wish)


def rests_from(web, rest, wish, many):
    """The list of the rest and of the rests 1 to many moments later."""
    rests = [rest]
    for _ in range(many):
        rests.append(rest_next(web, rests[-1], wish))
    return rests


def rest_after(web, rest, wish):
    """The load that is at each place the greater one of 0 and rest stepped - wish."""
    require_load(web, rest, "rest")
    require_load(web, wish, "wish")
    return rest_next(web, rest, wish)


def rest_course(web, start, wish, many):
    """The rests at the moments 0 to many."""
    require_wish(web, start, wish)
    require_number(many, "many")
    return tuple(rests_from(web, sure_table(web, start, wish), wish, many))


def is_done_by(web, start, wish, many):
    """Whether the rest at moment many is 0 everywhere; False if there is no table."""
    require_wish(web, start, wish)
    require_number(many, "many")
    table = grown(web, start, wish)[1]
    return table is not None and rests_from(web, table, wish, many)[-1] == no_load(size_of(web))
