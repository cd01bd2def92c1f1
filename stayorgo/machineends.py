"""The ends of machines."""

from stayorgo.ends import end_after
from stayorgo.errors import Endless
from stayorgo.machinecourses import goes_from
from stayorgo.machinepairs import as_pairs, coming_pairs, pair_start, pair_web, require_machine, stuck_numbers
from stayorgo.solving import flow_on
from stayorgo.usable import size_of


def machine_end_of(web, start, machine):
    """The pair (end, passes); Endless if the machine is not sure."""
    wide = pair_web(web, machine)
    begin = pair_start(start, machine)
    numbers = coming_pairs(wide, begin)
    stuck = stuck_numbers(wide, numbers)
    if stuck:
        raise Endless(as_pairs(web, stuck))
    # Each of these pairs leads to what stays: no closed lot is among them.
    passes = goes_from(size_of(web), machine, flow_on(wide, numbers, begin[0], begin[1]))
    return (end_after(web, start, passes), passes)


def machine_end(web, start, machine):
    """The pair (end, passes) of the machine."""
    require_machine(web, start, machine)
    return machine_end_of(web, start, machine)
