"""Ways to a wish by a load in the middle."""

from stayorgo.loads import added, weight_of
from stayorgo.tables import sure_table
from stayorgo.usable import require, require_load
from stayorgo.wishes import is_as_heavy


def middle_tables(web, start, middle, wish):
    """The triple of the tables from start to middle, from middle to wish, from start to wish."""
    require_load(web, start, "start")
    require(is_as_heavy(web, start, middle), "middle")
    require(is_as_heavy(web, start, wish), "wish")
    return (sure_table(web, start, middle), sure_table(web, middle, wish), sure_table(web, start, wish))


def middle_need(web, start, middle, wish):
    """The triple of the needs from the start to the middle, from there to the wish, and from the start to the wish."""
    first, then, whole = middle_tables(web, start, middle, wish)
    return (weight_of(first), weight_of(then), weight_of(whole))


def goes_by(web, start, middle, wish):
    """Whether the way by the middle takes no more passes than the way at once."""
    first, then, whole = middle_tables(web, start, middle, wish)
    return added(first, then) == whole
