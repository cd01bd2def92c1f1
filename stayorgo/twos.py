"""Machines made of two that look at one walk: the sooner and the later one."""

from stayorgo.behinds import lowest_machine, require_two_machines, times_all


def products(row, other):
    """The list of the products of each number of the row with each one of the other row."""
    return [number * factor for number in row for factor in other]


def both_goes(size, one, other):
    """For each pair of memories, and each place, what goes on by both, with each pair of memories."""
    return [[products(rows[place], others[place]) for place in range(size)] for rows in one[1] for others in other[1]]


def stays_of(row, bottom):
    """What of the bottom the row lets stay."""
    return bottom - sum(row)


def one_goes(size, one, other):
    """For each pair of memories, and each place, what goes on by one where other stays, and by other where one does."""
    return [
        [
            times_all(rows[place], stays_of(others[place], other[2]))
            + times_all(others[place], stays_of(rows[place], one[2]))
            for place in range(size)
        ]
        for rows in one[1] for others in other[1]
    ]


def sooner(size, one, other):
    """The machine that stays as soon as one of both would."""
    require_two_machines(size, one, other)
    return lowest_machine(products(one[0], other[0]), both_goes(size, one, other), one[2] * other[2])


def later(size, one, other):
    """The machine that stays as soon as both would have."""
    require_two_machines(size, one, other)
    ones, others = len(one[0]), len(other[0])
    both, single = both_goes(size, one, other), one_goes(size, one, other)
    first = [[both[k][place] + single[k][place] for place in range(size)] for k in range(ones * others)]
    by_one = [[[0] * (ones * others) + times_all(row, other[2]) + [0] * others for row in rows] for rows in one[1]]
    by_other = [[[0] * (ones * others + ones) + times_all(row, one[2]) for row in rows] for rows in other[1]]
    firsts = products(one[0], other[0]) + [0] * (ones + others)
    return lowest_machine(firsts, first + by_one + by_other, one[2] * other[2])
