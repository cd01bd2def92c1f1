"""What the tests share: webs, second opinions by fractions, and a check of refusals."""

import random
from fractions import Fraction
from itertools import combinations
from math import gcd

from stayorgo.errors import NotUsable

HALVES = (((1, 1), (1, 1)), 2)
FORK = (((0, 1, 1), (0, 0, 2), (0, 0, 2)), 2)
TURN = (((0, 1), (1, 0)), 1)
BOARD = (((0, 4, 0, 0), (2, 0, 2, 0), (0, 1, 0, 3), (0, 0, 0, 4)), 4)
ONE = ((1, 0, 0), 1)
ALONE = (((1,),), 1)
CIRCLE = (((0, 2, 0), (0, 0, 2), (1, 1, 0)), 2)
# Two fleeting places in front of a place that leads to itself alone and of a ring of two.
TWO_LOTS = (((0, 1, 1, 0, 1), (1, 0, 0, 2, 0), (0, 0, 3, 0, 0), (0, 0, 0, 0, 3), (0, 0, 0, 3, 0)), 3)
# Three closed lots, one of them not led to from elsewhere, and a fleeting place with an arrow to itself.
THREE_LOTS = (((2, 1, 1, 0, 0), (0, 4, 0, 0, 0), (0, 0, 1, 3, 0), (0, 0, 2, 2, 0), (0, 0, 0, 0, 4)), 4)
# A row of fleeting places, three of them in rings.
LADDER = (((0, 3, 0, 0, 0), (1, 0, 2, 0, 0), (1, 0, 0, 1, 1), (0, 0, 0, 0, 3), (0, 0, 0, 0, 3)), 3)
WEBS = (HALVES, FORK, TURN, BOARD, ALONE, CIRCLE, TWO_LOTS, THREE_LOTS, LADDER)


def size_of(web):
    return len(web[0])


# Making

def lowest(numbers, bottom):
    common = bottom
    for number in numbers:
        common = gcd(common, number)
    return [number // common for number in numbers], bottom // common


def make_load(numbers, bottom):
    tops, under = lowest(numbers, bottom)
    return (tuple(tops), under)


def make_quotient(value):
    return (value.numerator, value.denominator)


def load_of_values(numbers):
    bottom = 1
    for number in numbers:
        bottom = bottom * number.denominator // gcd(bottom, number.denominator)
    return make_load([int(number * bottom) for number in numbers], bottom)


def random_row(dice, size, bottom):
    row = [0] * size
    targets = dice.sample(range(size), dice.randint(1, min(size, 3)))
    for _ in range(bottom):
        row[dice.choice(targets)] += 1
    return tuple(row)


def random_web(dice, largest=5):
    size = dice.randint(1, largest)
    bottom = dice.randint(1, 5)
    rows = [random_row(dice, size, bottom) for _ in range(size)]
    for place in range(size):
        if dice.random() < 0.2:
            rows[place] = tuple(bottom if other == place else 0 for other in range(size))
    common = bottom
    for row in rows:
        for number in row:
            common = gcd(common, number)
    return (tuple(tuple(number // common for number in row) for row in rows), bottom // common)


def random_load(dice, size, top=6, empty=0.4):
    bottom = dice.randint(1, 6)
    return make_load([0 if dice.random() < empty else dice.randint(0, top) for _ in range(size)], bottom)


def random_webs(seed, many, largest=5):
    dice = random.Random(seed)
    return [(dice, random_web(dice, largest)) for _ in range(many)]


# Second opinions

def values(load):
    return [Fraction(top, load[1]) for top in load[0]]


def value(quotient):
    return Fraction(quotient[0], quotient[1])


def chance(web, here, there):
    return Fraction(web[0][here][there], web[1])


def step_values(web, stand):
    size = size_of(web)
    return [sum((stand[i] * chance(web, i, j) for i in range(size)), Fraction(0)) for j in range(size)]


def comes_values(web, start, passes):
    return [one + other for one, other in zip(start, step_values(web, passes))]


def product_values(one, other):
    return sum((first * second for first, second in zip(one, other)), Fraction(0))


def subsets(things):
    for many in range(len(things) + 1):
        yield from combinations(things, many)


def is_shut(web, places):
    return all(web[0][i][j] == 0 for i in places for j in range(size_of(web)) if j not in places)


def slow_lots(web):
    """The closed lots, by the words of the definition."""
    shut = [set(places) for places in subsets(range(size_of(web))) if places and is_shut(web, places)]
    return tuple(sorted(tuple(sorted(lot)) for lot in shut if not any(other < lot for other in shut)))


def slow_fleeting(web):
    held = [place for lot in slow_lots(web) for place in lot]
    return tuple(place for place in range(size_of(web)) if place not in held)


def solve(matrix, right):
    """The one solution, by elimination with fractions; None if there is not just one."""
    rows = [list(map(Fraction, row)) + [Fraction(last)] for row, last in zip(matrix, right)]
    many = len(rows)
    for column in range(many):
        found = [row for row in range(column, many) if rows[row][column] != 0]
        if not found:
            return None
        rows[column], rows[found[0]] = rows[found[0]], rows[column]
        rows[column] = [number / rows[column][column] for number in rows[column]]
        for row in range(many):
            if row != column:
                factor = rows[row][column]
                rows[row] = [one - factor * other for one, other in zip(rows[row], rows[column])]
    return [row[-1] for row in rows]


def slow_flow(web, places, base):
    """v on places with v = base + v stepped there, or None."""
    matrix = [[(i == j) - chance(web, i, j) for i in places] for j in places]
    found = solve(matrix, [base[j] for j in places])
    if found is None:
        return None
    out = [Fraction(0)] * size_of(web)
    for place, number in zip(places, found):
        out[place] = number
    return out


def is_table(web, start, rooms, table):
    """The three lines of the definition of the table, for lists of fractions."""
    comes = comes_values(web, start, table)
    for place in range(size_of(web)):
        if table[place] < 0:
            return False
        if table[place] > 0 and table[place] != comes[place] - rooms[place]:
            return False
        if table[place] == 0 and comes[place] > rooms[place]:
            return False
    return all(any(table[place] == 0 for place in lot) for lot in slow_lots(web))


def slow_table(web, start, rooms):
    """The table as a load, or None, by trying all sets of places for those that are passed."""
    first, room = values(start), values(rooms)
    lacks = [one - other for one, other in zip(first, room)]
    found = []
    for places in subsets(range(size_of(web))):
        flow = slow_flow(web, places, lacks)
        if flow is not None and is_table(web, first, room, flow) and flow not in found:
            found.append(flow)
    assert len(found) < 2, "two tables"
    return load_of_values(found[0]) if found else None


def slow_end(web, start, passes):
    comes = comes_values(web, values(start), values(passes))
    return load_of_values([one - other for one, other in zip(comes, values(passes))])


def slow_hope(web, closed, barred):
    """The hope of closed past barred, as fractions."""
    free = [place for place in slow_fleeting(web) if place not in barred]
    matrix = [[(i == j) - chance(web, i, j) for j in free] for i in free]
    found = solve(matrix, [sum((chance(web, i, j) for j in closed), Fraction(0)) for i in free])
    hope = [Fraction(int(place in closed)) for place in range(size_of(web))]
    for place, number in zip(free, found):
        hope[place] = number
    return hope


def slow_hopes(web):
    """All pairs (closed, barred), ascending, with their hopes."""
    pairs = [(lot, barred) for lot in slow_lots(web) for barred in subsets(slow_fleeting(web))]
    return [(pair, slow_hope(web, *pair)) for pair in sorted(pairs)]


def slow_gap(start, rooms, hope):
    return product_values(values(start), hope) - product_values(values(rooms), hope)


def stay_first(web, start, rooms, many):
    """The passes of stay-first before moments 0 to many, by what stands and what has stayed."""
    size = size_of(web)
    stands, left, gone = values(start), values(rooms), [Fraction(0)] * size
    course = [gone]
    for _ in range(many):
        stays = [min(one, room) for one, room in zip(stands, left)]
        goes = [one - stay for one, stay in zip(stands, stays)]
        left = [room - stay for room, stay in zip(left, stays)]
        gone = [one + more for one, more in zip(gone, goes)]
        stands = step_values(web, goes)
        course.append(gone)
    return course


def go_first(web, start, allowance, many):
    """The passes of go-first before moments 0 to many, by what stands and what may still go."""
    size = size_of(web)
    stands, left, gone = values(start), values(allowance), [Fraction(0)] * size
    course = [gone]
    for _ in range(many):
        goes = [min(one, more) for one, more in zip(stands, left)]
        left = [one - more for one, more in zip(left, goes)]
        gone = [one + more for one, more in zip(gone, goes)]
        stands = step_values(web, goes)
        course.append(gone)
    return course


class Walk:
    """A rule walked by what stands, goes on and stays; goes_at(moment, place, what stands, kept, gone) tells what goes.

    stands and goes have a list for each moment below many; kept has what had stayed with each of these moments, gone
    what had passed before each moment from 0 to many.
    """

    def __init__(self, web, start, many, goes_at):
        size = size_of(web)
        stands, kept, gone = values(start), [Fraction(0)] * size, [Fraction(0)] * size
        self.stands, self.goes, self.kept, self.gone = [], [], [], [gone]
        for moment in range(many):
            goes = [goes_at(moment, i, stands[i], kept[i], gone[i]) for i in range(size)]
            assert all(0 <= one <= other for one, other in zip(goes, stands))
            kept = [one + other - less for one, other, less in zip(kept, stands, goes)]
            gone = [one + more for one, more in zip(gone, goes)]
            self.stands.append(stands)
            self.goes.append(goes)
            self.kept.append(kept)
            self.gone.append(gone)
            stands = step_values(web, goes)
        self.last = stands

    def course(self):
        return tuple(load_of_values(gone) for gone in self.gone)


def stay_walk(web, start, rooms, many):
    """Stay-first: of what stands as much stays as there is room left."""
    room = values(rooms)
    return Walk(web, start, many, lambda t, i, stands, kept, gone: stands - min(stands, room[i] - kept))


def go_walk(web, start, allowance, many):
    """Go-first: of what stands as much goes as the allowance still lets go."""
    limit = values(allowance)
    return Walk(web, start, many, lambda t, i, stands, kept, gone: min(stands, limit[i] - gone))


def random_walk(dice, web, start, many):
    """A rule that lets go some random share of what stands."""
    shares = [Fraction(0), Fraction(1, 2), Fraction(1)]
    return Walk(web, start, many, lambda t, i, stands, kept, gone: stands * dice.choice(shares))


def load_as_heavy(dice, start):
    """A random load of the start's weight."""
    while True:
        numbers = values(random_load(dice, len(start[0]), 6, 0.5))
        if sum(numbers) > 0:
            return load_of_values([number * sum(values(start)) / sum(numbers) for number in numbers])


def wish_cases(seed, many=100, largest=5):
    """Triples (web, start, wish), the wish being the end of some rule, the start itself, or any load of its weight."""
    dice = random.Random(seed)
    webs = [web for web in WEBS if size_of(web) <= largest] + [random_web(dice, largest) for _ in range(20)]
    for turn in range(many):
        web = webs[turn % len(webs)]
        start = random_load(dice, size_of(web), 4)
        if turn % 3 == 0:
            wish = load_as_heavy(dice, start)
        else:
            walk = random_walk(dice, web, start, dice.randint(0, 3))
            kept = walk.kept[-1] if walk.kept else [Fraction(0)] * size_of(web)
            wish = load_of_values([one + other for one, other in zip(kept, walk.last)])
        yield web, start, wish


def sure_wishes(seed, many=100, largest=5):
    """Quadruples (web, start, wish, table) of wishes that can be come to."""
    for web, start, wish in wish_cases(seed, many, largest):
        table = slow_table(web, start, wish)
        if table is not None:
            yield web, start, wish, table


# Refusals

def bad_loads(size):
    """Values that are no loads of the size."""
    unit = (1,) + (0,) * (size - 1)
    return [
        None, True, 3, "", "1,0/1", (), [], unit, (unit,), (unit, 1, 1), [unit, 1], (list(unit), 1), (unit, 0),
        (unit, -1), (unit, True), (unit, "1"), (unit, None), (unit, (1,)), ((True,) + unit[1:], 1),
        ((-1,) + unit[1:], 1), (("1",) + unit[1:], 1), ((None,) + unit[1:], 1), (((1,),) + unit[1:], 1),
        (unit + (0,), 1), (unit[1:], 1), ((2,) + (0,) * (size - 1), 2), ((0,) * size, 2), (unit, 10 ** 59, None),
        "x" * 4000, (1,) * 4000,
    ]


def bad_numbers():
    return [None, True, False, -1, "1", "", (), (1,), [1], -10 ** 59]


def bad_places(size):
    return [None, True, False, -1, size, size + 1, 10 ** 59, "0", (), (0,), [0]]


def bad_sets(size):
    return [
        None, True, 0, "", "0", [], [0], (size,), (-1,), (0, 0), (True,), (False,), ("0",), (None,), ((0,),),
        (0, size), tuple(range(size + 1)), (0, None), tuple(range(size))[::-1] if size > 1 else (0, 0),
    ]


def bad_quotients():
    return [
        None, True, 0, 1, "1/2", "", (), (1,), [1, 2], (1, 2, 3), (2, 4), (0, 2), (1, 0), (1, -2), (True, 2), (1, True),
        ("1", 2), (1, None), ((1, 2), 1), (10 ** 59, 10 ** 58), (0, 0),
    ]


def bad_amounts():
    """Values that are no quotients of at least 0."""
    return bad_quotients() + [(-1, 1), (-1, 2), (-10 ** 59, 1)]


def bad_wishes(size):
    """Values that are no loads of weight 1."""
    unit = (1,) + (0,) * (size - 1)
    return bad_loads(size) + [((0,) * size, 1), ((2,) + (0,) * (size - 1), 1), ((1,) * (size + 1), size), (unit, 2)]


def bad_brink():
    """Values that are no brinks."""
    return [
        True, 0, "0", (), (0,), [0, (0, 1)], (0, (0, 1), 0), (-1, (0, 1)), (True, (0, 1)), (None, (0, 1)), ("1", (0, 1)),
        ((0, 1), 0), (0, (1, 1)), (0, (-1, 2)), (0, (3, 2)), (0, (2, 4)), (0, [1, 2]), (0, None), (0, 0), (0, (True, 2)),
        (0, (0, True)), (0, (0, 2)),
    ]


def bad_brinks(size):
    """Values that are no brinks of the size."""
    held = (None,) * (size - 1)
    return [None, True, 0, "", (), held, held + (None, None), [None] * size] + [held + (thing,) for thing in bad_brink()]


def bad_coins(size):
    """Values that are no coins of the size."""
    held = ((1, 1),) * (size - 1)
    things = bad_amounts() + [(2, 1), (3, 2), (10 ** 12 + 1, 10 ** 12)]
    return [None, True, 1, "", (), held, held + ((1, 1),) * 2, [(1, 1)] * size] + [held + (thing,) for thing in things]


def bad_prices(size):
    """Values that are no prices of the size."""
    load = ((1,) * size, 1)
    return [None, True, 1, "", (), load, [load]] + [(load, thing) for thing in bad_loads(size)]


def refused_as(function, arguments, names):
    """The name that is refused, called by position and by name; both must be alike."""
    told = []
    for call in (
        lambda: function(*arguments),
        lambda: function(**dict(zip(names, arguments))),
        lambda: function(arguments[0], **dict(zip(names[1:], arguments[1:]))) if arguments else function(),
    ):
        try:
            call()
        except NotUsable as refusal:
            told.append((refusal.word, refusal.at))
        else:
            told.append(None)
    assert told[0] == told[1] == told[2], told
    return told[0]


def check_refusals(case, function, good, bad):
    """Each bad value is refused by its parameter's name, alone and with all later parameters bad, too.

    good is a list of pairs (name, value); bad has, for names of these, lists of values that are not as stated.
    """
    names = [name for name, _ in good]
    for at, name in enumerate(names):
        for wrong in bad.get(name, ()):
            arguments = [held for _, held in good]
            arguments[at] = wrong
            case.assertEqual(refused_as(function, arguments, names), (name, -1), (function.__name__, name, wrong))
            for later in range(at + 1, len(names)):
                if names[later] in bad:
                    arguments[later] = bad[names[later]][0]
            case.assertEqual(refused_as(function, arguments, names), (name, -1), (function.__name__, name, wrong))
    case.assertIsNone(refused_as(function, [held for _, held in good], names), function.__name__)


def raised(function, *arguments, **named):
    """The error that the call raises, or None."""
    try:
        function(*arguments, **named)
    except ValueError as refusal:
        return refusal
    return None


def fields_of(refusal):
    """The class name and the fields of an error."""
    return (type(refusal).__name__, tuple(vars(refusal).values()))


class Same:
    """Mixed into test cases: equality to the sign, so that True is not 1 and a list is no tuple."""

    def same(self, one, other, told=None):
        self.assertEqual(repr(one), repr(other), told)

    def refuses_paper(self, word, at, function, *arguments):
        refusal = raised(function, *arguments)
        self.same(fields_of(refusal), ("InvalidPaper", (word, at)), arguments)


# Machines

def random_shares(dice, many, bottom):
    """Numbers, so many, with a sum of at most the bottom."""
    row, left = [0] * many, dice.choice((bottom, bottom, dice.randint(0, bottom), 0))
    for _ in range(left):
        row[dice.randrange(many)] += 1
    return row


def lowest_machine(firsts, goes, bottom):
    """The machine of these numbers over the bottom, in lowest terms."""
    common = bottom
    for number in list(firsts) + [number for rows in goes for row in rows for number in row]:
        common = gcd(common, number)
    return (
        tuple(number // common for number in firsts),
        tuple(tuple(tuple(number // common for number in row) for row in rows) for rows in goes),
        bottom // common,
    )


def machine_of_values(firsts, goes):
    """The machine of these fractions."""
    bottom = 1
    for number in list(firsts) + [number for rows in goes for row in rows for number in row]:
        bottom = bottom * number.denominator // gcd(bottom, number.denominator)
    whole = [[[int(number * bottom) for number in row] for row in rows] for rows in goes]
    return lowest_machine([int(number * bottom) for number in firsts], whole, bottom)


def random_machine(dice, size, memories=None):
    many = memories or dice.randint(1, 3)
    bottom = dice.randint(1, 5)
    firsts = [0] * many
    for _ in range(bottom):
        firsts[dice.randrange(many)] += 1
    goes = [[random_shares(dice, many, bottom) for _ in range(size)] for _ in range(many)]
    return lowest_machine(firsts, goes, bottom)


def machine_values(machine):
    """The firsts and the goes of a machine, as fractions."""
    firsts, goes, bottom = machine
    return (
        [Fraction(first, bottom) for first in firsts],
        [[[Fraction(number, bottom) for number in row] for row in rows] for rows in goes],
    )


class MachineWalk:
    """A machine walked moment by moment.

    stands has for each moment from 0 to many, and each memory, what stands there, without what stayed earlier; goes and
    kept have what goes on, and what stays, at the moments below many; gone has the passes before each moment.
    """

    def __init__(self, web, start, machine, many):
        firsts, goes = machine_values(machine)
        memories, places = range(len(firsts)), range(size_of(web))
        stands = [[first * one for one in values(start)] for first in firsts]
        self.stands, self.goes, self.kept, self.gone = [stands], [], [], [[Fraction(0)] * size_of(web)]
        for _ in range(many):
            moved = [[sum(stands[s][i] * goes[s][i][q] for s in memories) for i in places] for q in memories]
            left = [sum(stands[s][i] * (1 - sum(goes[s][i])) for s in memories) for i in places]
            self.goes.append([sum(row[i] for row in moved) for i in places])
            self.kept.append(left)
            self.gone.append([one + more for one, more in zip(self.gone[-1], self.goes[-1])])
            stands = [step_values(web, row) for row in moved]
            self.stands.append(stands)

    def course(self):
        return tuple(load_of_values(numbers) for numbers in self.gone)


def flooded(web, start, machine):
    """The pairs to which something comes, and for each of them the set of the pairs that it leads to."""
    firsts, goes, _ = machine
    leads = {
        (s, i): {
            (q, j) for q in range(len(firsts)) for j in range(size_of(web)) if goes[s][i][q] > 0 and web[0][i][j] > 0
        }
        for s in range(len(firsts)) for i in range(size_of(web))
    }
    found = []
    queue = [(s, i) for s in range(len(firsts)) for i in range(size_of(web)) if firsts[s] * start[0][i] > 0]
    while queue:
        pair = queue.pop()
        if pair not in found:
            found.append(pair)
            queue += leads[pair]
    return {pair: leads[pair] for pair in sorted(found)}


def slow_stuck(web, start, machine):
    """The pairs from which no way leads to something that stays, by trying all ways pair by pair."""
    leads = flooded(web, start, machine)
    stuck = []
    for pair in leads:
        seen, queue = set(), [pair]
        while queue:
            held = queue.pop()
            if held not in seen:
                seen.add(held)
                queue += leads[held]
        if all(sum(machine[1][s][i]) == machine[2] for s, i in seen):
            stuck.append(pair)
    return tuple(stuck)


def slow_machine_end(web, start, machine):
    """The pair (end, passes) as fractions, each memory's visits solved for by fractions; the machine is sure."""
    firsts, goes = machine_values(machine)
    pairs = list(flooded(web, start, machine))
    stand = values(start)
    matrix = [
        [(one == other) - goes[other[0]][other[1]][one[0]] * chance(web, other[1], one[1]) for other in pairs]
        for one in pairs
    ]
    visits = dict(zip(pairs, solve(matrix, [firsts[s] * stand[i] for s, i in pairs]) if pairs else []))
    end, passes = [Fraction(0)] * size_of(web), [Fraction(0)] * size_of(web)
    for (s, i), number in visits.items():
        end[i] += number * (1 - sum(goes[s][i]))
        passes[i] += number * sum(goes[s][i])
    return end, passes


def machine_cases(seed, many=100, largest=4):
    """Quadruples (dice, web, start, machine)."""
    dice = random.Random(seed)
    webs = [web for web in WEBS if size_of(web) <= largest] + [random_web(dice, largest) for _ in range(20)]
    for turn in range(many):
        web = webs[turn % len(webs)]
        start = random_load(dice, size_of(web), 3, 0.6 if turn % 7 else 1)
        yield dice, web, start, random_machine(dice, size_of(web))


def sure_machines(seed, many=100, largest=4):
    """Those of the cases in which the machine is sure."""
    for dice, web, start, machine in machine_cases(seed, many, largest):
        if not slow_stuck(web, start, machine):
            yield dice, web, start, machine


def bad_machines(size):
    """Values that are no machines of the size."""
    held = ((0,),) * size
    goes = (held,)
    return [
        None, True, 1, "", "1:0/1", (), [], ((1,), goes), ((1,), goes, 1, 1), [(1,), goes, 1], ((1,), goes, 0),
        ((1,), goes, True), ((1,), goes, None), ((1,), goes, "1"), ([1], goes, 1), ((), (), 1), ((True,), goes, 1),
        ((2,), goes, 1), ((0,), goes, 1), ((1, 0), goes, 1), ((1,), [held], 1), ((1,), (), 1), ((1,), (list(held),), 1),
        ((1,), (held + ((0,),),), 1), ((1,), (held[1:],), 1), ((1,), (held[1:] + ((2,),),), 1),
        ((1,), (held[1:] + ((0, 0),),), 1), ((1,), (held[1:] + ([0],),), 1), ((1,), (held[1:] + ((False,),),), 1),
        ((1,), (held[1:] + ((None,),),), 1), ((1,), (held[1:] + ((-1,),),), 1), ((1,), (held[1:] + (("0",),),), 1),
        ((2,), goes, 2), ((3, 3), (((0, 0),) * size,) * 2, 6), ((1,), ((None,) * size,), 1), ((1,), (None,), 1),
    ]


# Webs that are one closed lot

def random_lot(dice, largest=5):
    """A web that is one closed lot, periodic ones among them."""
    size = dice.randint(1, largest)
    order = dice.sample(range(size), size)
    bottom = dice.randint(1, 6)
    rows = [[0] * size for _ in range(size)]
    for k, place in enumerate(order):
        rows[place][order[(k + 1) % size]] = 1
        for _ in range(bottom - 1):
            rows[place][dice.choice((order[(k + 1) % size], dice.randrange(size)))] += 1
    common = bottom
    for row in rows:
        for number in row:
            common = gcd(common, number)
    return (tuple(tuple(number // common for number in row) for row in rows), bottom // common)


def lot_cases(seed, many, largest=5):
    dice = random.Random(seed)
    webs = [HALVES, TURN, ALONE, CIRCLE] + [random_lot(dice, largest) for _ in range(30)]
    for turn in range(many):
        yield dice, webs[turn % len(webs)]


def slow_shares(web):
    """The shares of a web that is one closed lot, by fractions."""
    size = size_of(web)
    matrix = [[chance(web, i, j) - (i == j) for i in range(size)] for j in range(size - 1)] + [[1] * size]
    return solve(matrix, [0] * (size - 1) + [1])


def slow_need(web, here, there):
    """The mean number of steps from here to there in a web that is one closed lot, by fractions."""
    others = [place for place in range(size_of(web)) if place != there]
    if here == there:
        return Fraction(0)
    found = solve([[(i == j) - chance(web, i, j) for j in others] for i in others], [1] * len(others))
    return found[others.index(here)]


def random_spread(dice, size):
    while True:
        numbers = [dice.choice((0, dice.randint(0, 5))) for _ in range(size)]
        if sum(numbers) > 0:
            return make_load(numbers, sum(numbers))


def bad_spreads(size):
    """Values that are no spreads of the size."""
    unit = (1,) + (0,) * (size - 1)
    return bad_loads(size) + [((0,) * size, 1), (unit, 2), ((2,) + unit[1:], 1), ((1,) * size, size + 1)]
