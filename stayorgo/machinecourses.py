"""The courses of machines, and what stands with each memory."""

from stayorgo.loads import added, load_from, no_load
from stayorgo.machinepairs import pair_start, pair_web, require_machine
from stayorgo.stepping import course_of
from stayorgo.usable import require_number, size_of


def pair_course(web, start, machine, many):
    """The list of what stands at the pairs at the moments 0 to many."""
    return course_of(pair_web(web, machine), pair_start(start, machine), many)


def by_memory(size, wide):
    """For each memory the load that stands with it, wide being what stands at the pairs."""
    tops, bottom = wide
    return tuple([load_from(list(tops[k:k + size]), bottom) for k in range(0, len(tops) - 1, size)])


def goes_from(size, machine, wide):
    """What goes on from the places of what stands at the pairs."""
    _, goes, bottom = machine
    tops, under = wide
    # The sums of the goes stand in the sequence of the pairs.
    shares = [sum(row) for rows in goes for row in rows]
    return load_from(
        [sum([tops[k] * shares[k] for k in range(place, len(shares), size)]) for place in range(size)], bottom * under
    )


def machine_passes(web, start, machine, many):
    """The list of the passes before the moments 0 to many."""
    course = [no_load(size_of(web))]
    for wide in pair_course(web, start, machine, many)[:many]:
        course.append(added(course[-1], goes_from(size_of(web), machine, wide)))
    return course


def machine_course(web, start, machine, many):
    """The course up to moment many."""
    require_machine(web, start, machine)
    require_number(many, "many")
    return tuple(machine_passes(web, start, machine, many))


def memory_course(web, start, machine, many):
    """For each moment from 0 to many the loads that stand then with each memory."""
    require_machine(web, start, machine)
    require_number(many, "many")
    return tuple([by_memory(size_of(web), wide) for wide in pair_course(web, start, machine, many)])
