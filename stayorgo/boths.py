"""Rules that keep within rooms and within an allowance."""

from stayorgo.compares import is_within
from stayorgo.courses import go_passes, stay_passes
from stayorgo.growing import grown
from stayorgo.tables import sure_table
from stayorgo.usable import require, require_load, require_number, require_rooms


def can_both(web, start, rooms, allowance):
    """Whether some sure rule keeps within the rooms and within the allowance."""
    require_rooms(web, start, rooms)
    require_load(web, allowance, "allowance")
    table = grown(web, start, rooms)[1]
    return table is not None and is_within(table, allowance)


def spans(web, start, rooms, allowance, many):
    """The least and the most that can have passed before moment many: by stay-first and by go-first."""
    require_rooms(web, start, rooms)
    require_load(web, allowance, "allowance")
    require_number(many, "many")
    require(is_within(sure_table(web, start, rooms), allowance), "allowance")
    return (stay_passes(web, start, rooms, many)[-1], go_passes(web, start, allowance, many)[-1])
