"""Parts of a web, and whether they are a lumping."""

from stayorgo.kinds import is_set
from stayorgo.usable import require, size_of


def is_parts(size, thing):
    """Whether thing is parts of the size."""
    if not (isinstance(thing, tuple) and all([is_set(size, part) and len(part) > 0 for part in thing])):
        return False
    if any([thing[k][0] >= thing[k + 1][0] for k in range(len(thing) - 1)]):
        return False
    return sorted([place for part in thing for place in part]) == list(range(size))


def into_parts(web, parts, place):
    """For each part the number, over the web's bottom, for the step from the place into it."""
    return tuple([sum([web[0][place][j] for j in part]) for part in parts])


def first_unlike_of(web, parts):
    """The first quadruple (p, i, j, q) that shows that the parts are no lumping, or None."""
    for p, part in enumerate(parts):
        first = into_parts(web, parts, part[0])
        for j in part[1:]:
            other = into_parts(web, parts, j)
            unlike = [q for q in range(len(parts)) if first[q] != other[q]]
            if unlike:
                return (p, part[0], j, unlike[0])
    return None


def is_lumping(web, thing):
    """Whether thing is a lumping of the web."""
    return is_parts(size_of(web), thing) and first_unlike_of(web, thing) is None


def first_unlike(web, parts):
    """The first quadruple (p, i, j, q) with unlike chances from i and j, in part p, into part q, or None."""
    require(is_parts(size_of(web), parts), "parts")
    return first_unlike_of(web, parts)
