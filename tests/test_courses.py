"""Stages 10 and 11: courses, rests, brinks."""

import random
import unittest
from fractions import Fraction

from stayorgo.brinkcourses import go_by, stay_by
from stayorgo.brinkends import go_end, is_least_go, stay_end
from stayorgo.brinks import go_brinks, is_brink, is_brinks, stay_brinks
from stayorgo.compares import is_within
from stayorgo.coursekinds import is_course, kept_course, standing_course
from stayorgo.courses import go_course, stay_course
from stayorgo.loads import added, no_load, taken, unit_load, weight_of
from stayorgo.rests import is_done_by, rest_after, rest_course
from stayorgo.stepping import stepped
from stayorgo.tables import can_stay, table_of

from tests.support import (
    ALONE, BOARD, CIRCLE, FORK, HALVES, LADDER, ONE, THREE_LOTS, TURN, TWO_LOTS, WEBS, Same, Walk, bad_brink,
    bad_brinks, bad_loads, bad_numbers, bad_wishes, check_refusals, fields_of, go_walk, load_of_values, make_quotient,
    raised, random_load, random_walk, random_web, size_of, slow_end, slow_flow, slow_lots, slow_table, stay_walk,
    step_values, sure_wishes, values, wish_cases,
)
from tests.test_tables import CheckNoRoom, cases

LEFT = ((1, 0), 1)
EVEN = ((1, 1), 2)
LATER = ((0, 1, 3), 4)
ZERO = no_load(2)
GONE = (((0, 0), 1), ((1, 0), 2), ((3, 0), 4))


def loads_of(lists):
    return tuple(load_of_values(numbers) for numbers in lists)


def slow_is_course(web, start, course):
    """Whether a tuple of loads is a course, by what stands."""
    gone = [values(load) for load in course]
    stands = values(start)
    if any(gone[0]):
        return False
    for before, after in zip(gone, gone[1:]):
        goes = [one - other for one, other in zip(after, before)]
        if not all(0 <= one <= other for one, other in zip(goes, stands)):
            return False
        stands = step_values(web, goes)
    return True


def bent(dice, course):
    """A course with a number more or less at one place of one load."""
    at, place = dice.randrange(len(course)), dice.randrange(len(course[0][0]))
    numbers = values(course[at])
    less = min(numbers[place], Fraction(1, 3))
    numbers[place] += dice.choice((Fraction(1, 7), Fraction(1), -less))
    return course[:at] + (load_of_values(numbers),) + course[at + 1:]


class CourseKinds(unittest.TestCase, Same):
    def given(self, seed, many=60):
        dice = random.Random(seed)
        webs = list(WEBS) + [random_web(dice) for _ in range(15)]
        for turn in range(many):
            web = webs[turn % len(webs)]
            start = random_load(dice, size_of(web))
            yield dice, web, start, random_walk(dice, web, start, turn % 5)

    def test_courses(self):
        for _, web, start, walk in self.given(52):
            course = walk.course()
            self.same(is_course(web, start, course), True)
            self.same(is_course(web=web, start=start, thing=course), True)
            self.same(standing_course(web, start, course), loads_of(walk.stands))
            self.same(standing_course(web=web, start=start, course=course), loads_of(walk.stands))
            self.same(kept_course(web, start, course), loads_of(walk.kept))
            self.same(kept_course(web=web, start=start, course=course), loads_of(walk.kept))
            # Left out at the end, a course is one still.
            self.same(is_course(web, start, course[:-1]), len(course) > 1)

    def test_bent_courses(self):
        told = {True: 0, False: 0}
        for dice, web, start, walk in self.given(53, 200):
            course = bent(dice, walk.course())
            is_one = slow_is_course(web, start, course)
            told[is_one] += 1
            self.same(is_course(web, start, course), is_one)
            if is_one:
                for t, load in enumerate(kept_course(web, start, course)):
                    self.same(added(load, course[t + 1]), added(start, stepped(web, course[t])))
            else:
                for function in (standing_course, kept_course):
                    self.same(fields_of(raised(function, web, start, course)), ("NotUsable", ("course", -1)))
        self.assertGreater(min(told.values()), 15)

    def test_told(self):
        self.same(is_course(TURN, ZERO, (ZERO,)), True)
        self.same(is_course(TURN, LEFT, (ZERO, ZERO, ZERO)), True)
        self.same(is_course(TURN, LEFT, (ZERO, LEFT, ((1, 1), 1))), True)
        for thing in (
            (LEFT,), (ZERO, ((0, 1), 1)), (ZERO, ((2, 0), 1)), (ZERO, LEFT, ZERO), (ZERO, LEFT, ((2, 0), 1)),
            (ZERO, LEFT, LEFT, ((1, 1), 1)), (ZERO, ZERO, LEFT), (ZERO, LEFT, ((1, 2), 1)),
        ):
            self.same(is_course(TURN, LEFT, thing), False)
        self.same(standing_course(HALVES, LEFT, (ZERO,)), ())
        self.same(kept_course(HALVES, LEFT, (ZERO,)), ())
        self.same(kept_course(HALVES, LEFT, (ZERO, ZERO, ZERO)), (LEFT, LEFT))
        self.same(standing_course(HALVES, LEFT, (ZERO, ZERO, ZERO)), (LEFT, ZERO))

    def test_what_is_no_course(self):
        wrong = [None, True, 0, "", "00", (), ZERO, [ZERO], (None,), ((),), (no_load(3),), (((0, 0), 2),), (ZERO, None),
                 list(GONE), (ZERO, GONE), (((False, 0), 1),), (ZERO, ((1, 0), True)), (ZERO, [(1, 0), 1])]
        for thing in wrong + [(ZERO, load) for load in bad_loads(2)]:
            self.same(is_course(HALVES, LEFT, thing), False)
        good = [("web", HALVES), ("start", LEFT), ("course", GONE)]
        for function in (standing_course, kept_course):
            check_refusals(self, function, good, {"start": bad_loads(2), "course": wrong})
        check_refusals(self, is_course, good[:2] + [("thing", GONE)], {"start": bad_loads(2)})


class Courses(unittest.TestCase, Same):
    def test_both_rules(self):
        tables = {True: 0, False: 0}
        for web, start, rooms in cases(54, 100):
            tables[can_stay(web, start, rooms)] += 1
            for many in (0, 1, 5):
                self.same(stay_course(web, start, rooms, many), stay_walk(web, start, rooms, many).course())
                self.same(go_course(web, start, rooms, many), go_walk(web, start, rooms, many).course())
            stays, goes = stay_course(web, start, rooms, 6), go_course(web, start, rooms, 6)
            self.same(stay_course(web=web, start=start, rooms=rooms, many=6), stays)
            self.same(go_course(web=web, start=start, allowance=rooms, many=6), goes)
            for course in (stays, goes):
                self.same(is_course(web, start, course), True)
                for stood, kept, before, after in zip(
                    standing_course(web, start, course), kept_course(web, start, course), course, course[1:]
                ):
                    self.same(added(after, kept), added(start, stepped(web, before)))
                    self.assertTrue(is_within(taken(after, before), stood))
            self.assertTrue(all(is_within(load, rooms) for load in kept_course(web, start, stays) + goes))
        self.assertGreater(min(tables.values()), 20)

    def test_told(self):
        self.same(stay_course(HALVES, LEFT, EVEN, 0), (ZERO,))
        self.same(go_course(HALVES, LEFT, LEFT, 0), (ZERO,))
        self.same(stay_course(TURN, LEFT, ZERO, 3), (ZERO, LEFT, ((1, 1), 1), ((2, 1), 1)))
        self.same(go_course(TURN, LEFT, ((9, 9), 1), 3), (ZERO, LEFT, ((1, 1), 1), ((2, 1), 1)))
        self.same(len(stay_course(BOARD, unit_load(4, 0), unit_load(4, 3), 16)), 17)

    def test_refusals(self):
        good = [("web", HALVES), ("start", LEFT), ("rooms", EVEN), ("many", 2)]
        bad = {"start": bad_loads(2), "rooms": bad_loads(2), "allowance": bad_loads(2), "many": bad_numbers()}
        for function in (stay_course, stay_brinks):
            check_refusals(self, function, good, bad)
        good[2] = ("allowance", EVEN)
        for function in (go_course, go_brinks):
            check_refusals(self, function, good, bad)


class Rests(unittest.TestCase, Same, CheckNoRoom):
    def test_rests(self):
        done = {True: 0, False: 0}
        for web, start, wish in wish_cases(55, 120):
            table = slow_table(web, start, wish)
            if table is None:
                self.refuses_room(web, start, wish, rest_course, web, start, wish, 2)
                self.same(is_done_by(web, start, wish, 3), False)
                continue
            gone = go_walk(web, start, table, 6).gone
            rests = loads_of([[one - other for one, other in zip(values(table), passed)] for passed in gone])
            for many in range(7):
                self.same(rest_course(web, start, wish, many), rests[:many + 1])
                self.same(is_done_by(web, start, wish, many), not any(rests[many][0]))
                done[not any(rests[many][0])] += 1
            self.same(rest_course(web=web, start=start, wish=wish, many=2), rests[:3])
            self.same(is_done_by(web=web, start=start, wish=wish, many=2), not any(rests[2][0]))
            for before, after in zip(rests, rests[1:]):
                self.same(rest_after(web, before, wish), after)
        self.assertGreater(min(done.values()), 40)

    def test_rest_after_loads_of_any_weights(self):
        for web, rest, wish in cases(56, 80):
            numbers = [max(one - other, Fraction(0)) for one, other in zip(step_values(web, values(rest)), values(wish))]
            self.same(rest_after(web, rest, wish), load_of_values(numbers))
            self.same(rest_after(web=web, rest=rest, wish=wish), load_of_values(numbers))
        self.same(rest_after(TURN, ((5, 2), 1), ((0, 3), 1)), ((2, 2), 1))
        self.same(rest_after(TURN, ZERO, ((9, 9), 1)), ZERO)

    def test_told(self):
        self.same(is_done_by(HALVES, LEFT, EVEN, 0), False)
        self.same(is_done_by(HALVES, LEFT, LEFT, 0), True)
        self.same(is_done_by(FORK, ONE, ((0, 1, 0), 1), 16), False)
        self.same(rest_course(HALVES, LEFT, LEFT, 1), (ZERO, ZERO))
        self.same([is_done_by(FORK, ONE, LATER, many) for many in range(4)], [False, False, True, True])
        self.same(is_done_by(BOARD, unit_load(4, 0), unit_load(4, 3), 16), False)

    def test_refusals(self):
        good = [("web", HALVES), ("rest", LEFT), ("wish", EVEN)]
        check_refusals(self, rest_after, good, {"rest": bad_loads(2), "wish": bad_loads(2)})
        good = [("web", HALVES), ("start", LEFT), ("wish", EVEN), ("many", 2)]
        bad = {"start": bad_loads(2), "wish": bad_wishes(2), "many": bad_numbers()}
        for function in (rest_course, is_done_by):
            check_refusals(self, function, good, bad)
        # A wrong number is told ahead of a wish that cannot be come to.
        self.same(fields_of(raised(rest_course, FORK, ONE, ((0, 1, 0), 1), -1)), ("NotUsable", ("many", -1)))
        self.same(fields_of(raised(is_done_by, FORK, ONE, ((0, 1, 0), 1), True)), ("NotUsable", ("many", -1)))


def slow_brinks(walk, limit, before):
    """The brinks by what stood: before is what has stayed, or gone, before each moment."""
    told = []
    for place, most in enumerate(values(limit)):
        came, found = Fraction(0), None
        for t, stands in enumerate(walk.stands):
            came += stands[place]
            if found is None and came > most:
                found = (t, make_quotient((most - before[t][place]) / stands[place]))
        told.append(found)
    return tuple(told)


def go_table(brinks):
    """What goes on by the brinks as a go table."""
    def goes_at(moment, place, stands, kept, gone):
        brink = brinks[place]
        if brink is None or moment < brink[0]:
            return stands
        return stands * Fraction(*brink[1]) if moment == brink[0] else Fraction(0)
    return goes_at


def stay_table(brinks):
    """What goes on by the brinks as a stay table."""
    def goes_at(moment, place, stands, kept, gone):
        brink = brinks[place]
        if brink is None or moment < brink[0]:
            return Fraction(0)
        return stands - stands * Fraction(*brink[1]) if moment == brink[0] else stands
    return goes_at


def random_brinks(dice, size):
    parts = ((0, 1), (0, 1), (1, 2), (2, 3), (1, 7))
    return tuple(None if dice.random() < 0.4 else (dice.randint(0, 4), dice.choice(parts)) for _ in range(size))


def brink_cases(seed, many=120):
    dice = random.Random(seed)
    webs = list(WEBS) + [random_web(dice) for _ in range(15)]
    for turn in range(many):
        web = webs[turn % len(webs)]
        yield web, random_load(dice, size_of(web)), random_brinks(dice, size_of(web))


class BrinkKinds(unittest.TestCase, Same):
    def test_brinks(self):
        for thing in ((0, (0, 1)), (8, (1, 2)), (10 ** 50, (10 ** 40, 10 ** 40 + 1))):
            self.same(is_brink(thing), True)
            self.same(is_brink(thing=thing), True)
            self.same(is_brinks(2, (None, thing)), True)
            self.same(is_brinks(size=1, thing=(thing,)), True)
        self.same(is_brinks(3, (None, None, None)), True)
        for thing in bad_brink() + [None]:
            self.same(is_brink(thing), False)
        for size in (1, 3):
            for thing in bad_brinks(size):
                self.same(is_brinks(size, thing), False)


class Brinks(unittest.TestCase, Same):
    def test_brinks_of_both_rules(self):
        parts = {True: 0, False: 0, None: 0}
        for web, start, limit in cases(57, 120):
            for many in (0, 1, 3, 7):
                goes = go_walk(web, start, limit, many)
                told = slow_brinks(goes, limit, goes.gone)
                self.same(go_brinks(web, start, limit, many), told)
                self.same(go_brinks(web=web, start=start, allowance=limit, many=many), told)
                # Walked again, the brinks give the course up to their many.
                self.same(go_by(web, start, told, many), goes.course())
                stays = stay_walk(web, start, limit, many)
                before = [[Fraction(0)] * size_of(web)] + stays.kept
                told_too = slow_brinks(stays, limit, before)
                self.same(stay_brinks(web, start, limit, many), told_too)
                self.same(stay_brinks(web=web, start=start, rooms=limit, many=many), told_too)
                self.same(stay_by(web, start, told_too, many), stays.course())
                for brink in told + told_too:
                    parts[None if brink is None else brink[1] == (0, 1)] += 1
                self.same((is_brinks(size_of(web), told), is_brinks(size_of(web), told_too)), (True, True))
        self.assertGreater(min(parts.values()), 100)

    def test_told(self):
        # At moment 1 there comes more than the rooms; below 1 there is no such moment yet.
        self.same(stay_brinks(TURN, LEFT, ((0, 1), 2), 1), ((0, (0, 1)), None))
        self.same(stay_brinks(TURN, LEFT, ((0, 1), 2), 2), ((0, (0, 1)), (1, (1, 2))))
        self.same(go_brinks(TURN, LEFT, ((3, 5), 2), 2), (None, None))
        self.same(go_brinks(TURN, LEFT, ((3, 5), 2), 3), ((2, (1, 2)), None))
        self.same(go_brinks(TURN, LEFT, ((3, 5), 2), 16), ((2, (1, 2)), None))
        self.same(go_brinks(TURN, LEFT, ((3, 1), 2), 16), (None, (1, (1, 2))))
        # Just as much as the limit is not more.
        self.same(go_brinks(TURN, LEFT, ((1, 1), 1), 2), (None, None))
        self.same(stay_brinks(TURN, LEFT, LEFT, 9), (None, None))


class BrinkCourses(unittest.TestCase, Same):
    def test_courses(self):
        for web, start, brinks in brink_cases(58):
            for many in (0, 1, 4, 6):
                course = Walk(web, start, many, go_table(brinks)).course()
                self.same(go_by(web, start, brinks, many), course)
                self.same(go_by(web=web, start=start, brinks=brinks, many=many), course)
                course = Walk(web, start, many, stay_table(brinks)).course()
                self.same(stay_by(web, start, brinks, many), course)
                self.same(stay_by(web=web, start=start, brinks=brinks, many=many), course)

    def test_told(self):
        self.same(go_by(TURN, LEFT, ((0, (0, 1)), None), 2), (ZERO, ZERO, ZERO))
        self.same(go_by(TURN, LEFT, (None, None), 2), (ZERO, LEFT, ((1, 1), 1)))
        self.same(go_by(TURN, LEFT, ((0, (1, 3)), None), 2), (ZERO, ((1, 0), 3), ((1, 1), 3)))
        self.same(stay_by(TURN, LEFT, ((0, (1, 3)), None), 2), (ZERO, ((2, 0), 3), ((2, 0), 3)))
        self.same(stay_by(TURN, LEFT, (None, None), 2), (ZERO, ZERO, ZERO))
        self.same(stay_by(TURN, LEFT, ((0, (0, 1)), (1, (0, 1))), 2), (ZERO, LEFT, ((1, 1), 1)))
        self.same(go_by(TURN, LEFT, ((16, (0, 1)), None), 0), (ZERO,))

    def test_refusals(self):
        good = [("web", TURN), ("start", LEFT), ("brinks", ((0, (1, 2)), None)), ("many", 2)]
        bad = {"start": bad_loads(2), "brinks": bad_brinks(2), "many": bad_numbers()}
        for function in (go_by, stay_by):
            check_refusals(self, function, good, bad)
        for function in (go_end, is_least_go):
            check_refusals(self, function, good[:3], bad)
        good[2] = ("brinks", (None, (0, (1, 2))))
        check_refusals(self, stay_end, good[:3], bad)


def slow_stuck(web, stands, free):
    """The first closed lot all of whose places are free, to which some of what stands comes, or None."""
    held = {i for i, number in enumerate(stands) if number}
    for _ in range(size_of(web)):
        held = held | {j for i in held if i in free for j in range(size_of(web)) if web[0][i][j]}
    for lot in slow_lots(web):
        if set(lot) <= set(free) and set(lot) & held:
            return lot
    return None


def slow_passes(web, walk, free):
    """All passes: those of the walk, and those on the free places to which something comes still."""
    held = {i for i, number in enumerate(walk.last) if number}
    for _ in range(size_of(web)):
        held = held | {j for i in held if i in free for j in range(size_of(web)) if web[0][i][j]}
    flow = slow_flow(web, sorted(held & set(free)), walk.last)
    return load_of_values([one + other for one, other in zip(walk.gone[-1], flow)])


class BrinkEnds(unittest.TestCase, Same):
    def check(self, web, start, brinks, function, rule, free):
        walk = Walk(web, start, 6, rule(brinks))
        stuck = slow_stuck(web, walk.last, free)
        if stuck is not None:
            self.same(fields_of(raised(function, web, start, brinks)), ("Endless", (stuck,)))
            return stuck, None
        passes = slow_passes(web, walk, free)
        end = slow_end(web, start, passes)
        self.same(function(web, start, brinks), (end, passes))
        self.same(function(web=web, start=start, brinks=brinks), (end, passes))
        self.same(weight_of(end), weight_of(start))
        return None, (end, passes)

    def test_go_ends(self):
        told = {True: 0, False: 0, None: 0}
        for web, start, brinks in brink_cases(59, 200):
            free = [place for place, brink in enumerate(brinks) if brink is None]
            stuck, both = self.check(web, start, brinks, go_end, go_table, free)
            if both is None:
                self.same(fields_of(raised(is_least_go, web, start, brinks)), ("Endless", (stuck,)))
                told[None] += 1
                continue
            end, passes = both
            least = all(any(passes[0][i] == 0 for i in lot) for lot in slow_lots(web))
            told[least] += 1
            self.same(is_least_go(web, start, brinks), least)
            self.same(is_least_go(web=web, start=start, brinks=brinks), least)
            self.same(slow_table(web, start, end) == passes, least)
            self.same(go_course(web, start, passes, 5), go_by(web, start, brinks, 5))
        self.assertGreater(min(told.values()), 20)

    def test_stay_ends(self):
        told = {True: 0, False: 0}
        for web, start, brinks in brink_cases(60, 200):
            free = [place for place, brink in enumerate(brinks) if brink is not None]
            _, both = self.check(web, start, brinks, stay_end, stay_table, free)
            told[both is None] += 1
            if both is not None:
                self.same(table_of(web, start, both[0]), both[1])
                self.same(stay_course(web, start, both[0], 5), stay_by(web, start, brinks, 5))
        self.assertGreater(min(told.values()), 10)

    def test_endless_with_the_first_lot(self):
        never = (None,) * 5
        now = ((0, (0, 1)),) * 5
        for brinks, function in ((never, go_end), (never, is_least_go), (now, stay_end)):
            for start, stuck in (
                (unit_load(5, 0), (1,)), (unit_load(5, 4), (4,)), (unit_load(5, 3), (2, 3)),
                (((0, 0, 1, 0, 1), 1), (2, 3)), (((0, 1, 1, 1, 1), 1), (1,)),
            ):
                self.same(fields_of(raised(function, THREE_LOTS, start, brinks)), ("Endless", (stuck,)))
        # Where nothing comes nothing goes on; a lot with one place at which all stays in the end holds nothing up.
        self.same(go_end(THREE_LOTS, no_load(5), never), (no_load(5), no_load(5)))
        self.same(stay_end(THREE_LOTS, no_load(5), now), (no_load(5), no_load(5)))
        some = (None, None, None, (0, (0, 1)), None)
        self.same(go_end(THREE_LOTS, unit_load(5, 2), some), (unit_load(5, 3), ((0, 0, 4, 0, 0), 3)))
        self.same(fields_of(raised(go_end, THREE_LOTS, unit_load(5, 0), some)), ("Endless", ((1,),)))

    def test_told(self):
        self.same(go_end(TURN, LEFT, ((0, (0, 1)), None)), (LEFT, ZERO))
        self.same(is_least_go(TURN, LEFT, ((0, (0, 1)), None)), True)
        self.same(is_least_go(TURN, LEFT, ((2, (1, 2)), None)), False)
        self.same(stay_end(TURN, LEFT, ((0, (1, 3)), None)), (((1, 2), 3), ((2, 0), 3)))
        self.same(stay_end(TURN, LEFT, (None, None)), (LEFT, ZERO))
        self.same(stay_end(ALONE, ((3,), 1), ((9, (0, 1)),)), (((3,), 1), ((0,), 1)))
        self.same(stay_end(BOARD, unit_load(4, 0), ((0, (0, 1)),) * 3 + (None,)), (unit_load(4, 3), ((7, 8, 4, 0), 3)))
        self.same(stay_end(CIRCLE, ONE, ((8, (1, 2)),) * 3), (ONE, no_load(3)))

    def test_brinks_of_the_package(self):
        # Brinks with greater moments than eight, of rules that go on long.
        told = go_brinks(HALVES, LEFT, ((11, 9), 2), 16)
        self.assertGreater(max(brink[0] for brink in told), 8)
        end, passes = go_end(HALVES, LEFT, told)
        self.same(end, slow_end(HALVES, LEFT, passes))
        self.same(go_by(HALVES, LEFT, told, 16), go_course(HALVES, LEFT, ((11, 9), 2), 16))

    def test_least_rules_of_wishes(self):
        # Brinks of go-first with the table as allowance, once it is done, end as wished.
        ended = 0
        for web, start, wish, table in sure_wishes(61, 100):
            if not any(rest_course(web, start, wish, 8)[-1][0]):
                ended += 1
                brinks = go_brinks(web, start, table, 9)
                self.same(go_end(web, start, brinks), (wish, table))
                self.same(is_least_go(web, start, brinks), True)
        self.assertGreater(ended, 30)


class Webs(unittest.TestCase, Same):
    def test_long_courses(self):
        for web in (HALVES, BOARD, LADDER, TWO_LOTS):
            start, rooms = unit_load(size_of(web), 0), load_of_values([Fraction(1, size_of(web))] * size_of(web))
            self.same(stay_course(web, start, rooms, 16), stay_walk(web, start, rooms, 16).course())
            self.same(go_course(web, start, rooms, 16), go_walk(web, start, rooms, 16).course())
