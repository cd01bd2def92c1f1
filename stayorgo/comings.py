"""Which loads can be come to from a start, and how much must pass for that."""

from stayorgo.arrows import reached_by
from stayorgo.loads import places_of, weight_of
from stayorgo.tables import has_table, sure_table
from stayorgo.usable import require_load


def some_rule_ends(web, start, target):
    """Whether target can be come to from start."""
    # With just as much room as stands at the start all rooms are filled in the end.
    return weight_of(start) == weight_of(target) and has_table(web, start, target)


def can_come(web, start, target):
    """Whether target can be come to from start."""
    require_load(web, start, "start")
    require_load(web, target, "target")
    return some_rule_ends(web, start, target)


def need_of(web, start, target):
    """The weight of the table of start and target as rooms."""
    require_load(web, start, "start")
    require_load(web, target, "target")
    return weight_of(sure_table(web, start, target))


def end_places(web, start):
    """The set of the places that can be reached from some place at which start is above 0."""
    require_load(web, start, "start")
    return reached_by(web, places_of(start))
