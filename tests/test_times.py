"""Stages 14 and 15: timetables, their courses and ends, lines, the class Times."""

import random
import re
import unittest
from fractions import Fraction

from stayorgo.compares import is_within
from stayorgo.courses import stay_course
from stayorgo.loads import added, no_load, taken, unit_load
from stayorgo.tables import can_stay, table_of
from stayorgo.timechecker import is_timetable, lets_timetable
from stayorgo.timeclasses import Times
from stayorgo.timecourses import time_course, time_kept
from stayorgo.timeends import can_keep, is_time_course, keeps_to, time_end, time_passes
from stayorgo.timemaking import coming_in_all, gathered, opened, steady_timetable
from stayorgo.timerests import at_rest
from stayorgo.timetexts import read_timetable, timetable_line
from stayorgo.comings import can_come

from tests.support import (
    ALONE, BOARD, FORK, HALVES, ONE, TURN, WEBS, Same, bad_loads, bad_numbers, check_refusals, fields_of,
    load_of_values, raised, random_load, random_web, size_of, slow_end, slow_table, step_values, values,
)
from tests.test_courses import bent, loads_of
from tests.test_tables import CheckNoRoom
from tests.test_webs import WRONG_WEBS

DAYS = ((((1, 0), 1), ((1, 0), 2)), (((0, 1), 2), ((1, 1), 1)))
ZERO = no_load(2)
LEFT = ((1, 0), 1)


def random_timetable(dice, size, moments, wide=2):
    """A timetable whose rooms grow now and then."""
    rooms, pairs = values(random_load(dice, size, wide, 0.3)), []
    for moment in range(moments):
        if moment and dice.random() < 0.6:
            rooms = [one + more for one, more in zip(rooms, values(random_load(dice, size, 2, 0.5)))]
        pairs.append((random_load(dice, size, 4, 0.5), load_of_values(rooms)))
    return tuple(pairs)


def time_cases(seed, many=100, wide=2):
    dice = random.Random(seed)
    webs = list(WEBS) + [random_web(dice) for _ in range(15)]
    for turn in range(many):
        web = webs[turn % len(webs)]
        yield dice, web, random_timetable(dice, size_of(web), dice.choice((1, 2, 3, 6)), wide)


def came_at(timetable, moment):
    size = len(timetable[0][0][0])
    return values(timetable[moment][0]) if moment < len(timetable) else [Fraction(0)] * size


def rooms_by(timetable, moment):
    return values(timetable[min(moment, len(timetable) - 1)][1])


class TimeWalk:
    """A rule walked by what comes, stands, goes and stays; goes_at(moment, place, what stands, what is left) tells."""

    def __init__(self, web, timetable, many, goes_at):
        size = size_of(web)
        zero = [Fraction(0)] * size
        arrives, kept, gone = zero, zero, zero
        self.stands, self.goes, self.kept, self.gone = [], [], [], [gone]
        for moment in range(many):
            stands = [one + other for one, other in zip(arrives, came_at(timetable, moment))]
            left = [room - one for room, one in zip(rooms_by(timetable, moment), kept)]
            goes = [goes_at(moment, i, stands[i], left[i]) for i in range(size)]
            kept = [one + other - less for one, other, less in zip(kept, stands, goes)]
            gone = [one + more for one, more in zip(gone, goes)]
            for held, numbers in (
                (self.stands, stands), (self.goes, goes), (self.kept, kept), (self.gone, gone)
            ):
                held.append(numbers)
            arrives = step_values(web, goes)

    def course(self):
        return loads_of(self.gone)


def stay_times(web, timetable, many):
    """Stay-first: all stays for which there is room."""
    return TimeWalk(web, timetable, many, lambda t, i, stands, left: stands - min(stands, left))


def some_times(dice, web, timetable, many, share=(0, 1, 2)):
    """Some rule that keeps to the timetable."""
    return TimeWalk(web, timetable, many,
                    lambda t, i, stands, left: stands - min(stands, left) * Fraction(dice.choice(share), 2))


class Checker(unittest.TestCase, Same):
    def test_timetables_are_let(self):
        dice = random.Random(80)
        for size in (1, 2, 5, 9, 12):
            for moments in (1, 2, 6, 9):
                timetable = random_timetable(dice, size, moments)
                self.same(lets_timetable(size, timetable), moments)
                self.same(lets_timetable(size=size, thing=timetable), moments)
                self.same(is_timetable(size, timetable), True)
                self.same(is_timetable(size=size, thing=timetable), True)
                self.same(is_timetable(size + 1, timetable), False)
                self.refuses_paper("coming", 0, lets_timetable, size + 1, timetable)
        self.same(lets_timetable(2, ((ZERO, ZERO),)), 1)
        self.same(lets_timetable(2, ((ZERO, LEFT), (LEFT, LEFT))), 2)

    def test_each_entry(self):
        fine = (LEFT, LEFT)
        told = [("shape", -1, thing) for thing in (None, True, 0, "", (), [], [fine], "ab")]
        for pair in (None, True, 0, "", "ab", (), (LEFT,), (LEFT, LEFT, LEFT), [LEFT, LEFT], 10 ** 59):
            told += [("pair", 0, (pair,)), ("pair", 1, (fine, pair)), ("pair", 1, (fine, pair, None))]
        for load in bad_loads(2):
            told += [("coming", 0, ((load, LEFT),)), ("coming", 1, (fine, (load, LEFT)))]
            told += [("rooms", 0, ((LEFT, load),)), ("rooms", 2, (fine, fine, (LEFT, load)))]
        for rooms in (ZERO, ((0, 1), 1), ((1, 5), 2), ((9, 99), 10)):
            told += [("closing", 1, (fine, (LEFT, rooms))), ("closing", 2, (fine, fine, (LEFT, rooms)))]
        # Two faults at once: the first one of the list, moment by moment.
        told += [
            ("pair", 0, (None, None)), ("coming", 0, ((None, None),)), ("coming", 0, ((None, LEFT), None)),
            ("rooms", 0, ((LEFT, None), None)), ("closing", 1, (fine, (LEFT, ZERO), None)),
            ("closing", 1, (fine, (LEFT, ZERO), (LEFT, ZERO))), ("coming", 1, (fine, (None, ZERO))),
            ("rooms", 1, (fine, (LEFT, None), (None, None))), ("coming", 0, ((None, LEFT), (LEFT, ZERO))),
            ("pair", 1, (fine, (), (LEFT, ZERO))), ("coming", 0, (fine[::-1] and (no_load(3), no_load(3)),)),
        ]
        for word, at, thing in told:
            self.refuses_paper(word, at, lets_timetable, 2, thing)
            self.same(is_timetable(2, thing), False)

    def test_rooms_are_held_against_those_just_before(self):
        self.refuses_paper("closing", 2, lets_timetable, 1, tuple((((0,), 1), ((top,), 1)) for top in (1, 3, 2)))
        self.same(is_timetable(1, tuple((((0,), 1), ((top,), 1)) for top in (1, 2, 2, 3))), True)


def bad_timetables():
    """Values that are no timetables of size 2."""
    return [None, True, 0, "", (), [], list(DAYS), DAYS[0], DAYS[::-1], (DAYS[0], None), ((ZERO, no_load(3)),),
            ((no_load(3), no_load(3)),), (DAYS,), ((LEFT,),), (DAYS[0], list(DAYS[1])), ((LEFT, True),)]


class Making(unittest.TestCase, Same):
    def test_sums(self):
        for dice, web, timetable in time_cases(81, 60):
            size, moments = size_of(web), len(timetable)
            total = load_of_values([sum(numbers) for numbers in zip(*(values(coming) for coming, _ in timetable))])
            self.same(coming_in_all(size, timetable), total)
            self.same(coming_in_all(size=size, timetable=timetable), total)
            wide = tuple((coming, timetable[-1][1]) for coming, _ in timetable)
            self.same(opened(size, timetable), wide)
            self.same(opened(size=size, timetable=timetable), wide)
            early = tuple((no_load(size) if t else total, rooms) for t, (_, rooms) in enumerate(timetable))
            self.same(gathered(size, timetable), early)
            self.same(gathered(size=size, timetable=timetable), early)
            comings, rooms = tuple(coming for coming, _ in timetable), random_load(dice, size)
            steady = tuple((coming, rooms) for coming in comings)
            self.same(steady_timetable(size, comings, rooms), steady)
            self.same(steady_timetable(size=size, comings=comings, rooms=rooms), steady)
            for made in (wide, early, steady):
                self.same(lets_timetable(size, made), moments)
            self.same(coming_in_all(size, early), total)

    def test_told(self):
        self.same(coming_in_all(2, DAYS), ((2, 1), 2))
        self.same(opened(2, DAYS), ((LEFT, ((1, 1), 1)), (((0, 1), 2), ((1, 1), 1))))
        self.same(gathered(2, DAYS), ((((2, 1), 2), ((1, 0), 2)), (ZERO, ((1, 1), 1))))
        self.same(steady_timetable(2, (LEFT,), ZERO), ((LEFT, ZERO),))
        self.same(steady_timetable(9, (no_load(9),) * 6, unit_load(9, 8)), ((no_load(9), unit_load(9, 8)),) * 6)

    def test_refusals(self):
        for function in (opened, gathered, coming_in_all):
            check_refusals(self, function, [("size", 2), ("timetable", DAYS)], {"timetable": bad_timetables()})
        wrong = [None, True, "", (), LEFT, [LEFT], (LEFT, None), (LEFT, no_load(3))] + [(load,) for load in bad_loads(2)]
        good = [("size", 2), ("comings", (LEFT, ZERO)), ("rooms", LEFT)]
        check_refusals(self, steady_timetable, good, {"comings": wrong, "rooms": bad_loads(2)})


class Courses(unittest.TestCase, Same):
    def test_courses(self):
        for _, web, timetable in time_cases(82):
            walk = stay_times(web, timetable, 9)
            for many in (0, 1, 4, 9):
                self.same(time_course(web, timetable, many), walk.course()[:many + 1])
                self.same(time_kept(web, timetable, many), loads_of(walk.kept)[:many])
            self.same(time_course(web=web, timetable=timetable, many=3), walk.course()[:4])
            self.same(time_kept(web=web, timetable=timetable, many=3), loads_of(walk.kept)[:3])

    def test_what_came_is_what_has_stayed_and_gone_on(self):
        for _, web, timetable in time_cases(83, 40):
            course, kept = time_course(web, timetable, 8), time_kept(web, timetable, 8)
            came = [Fraction(0)] * size_of(web)
            for t in range(8):
                came = [one + other for one, other in zip(came, came_at(timetable, t))]
                gone = step_values(web, values(course[t]))
                both = load_of_values([one + other for one, other in zip(came, gone)])
                self.same(added(course[t + 1], kept[t]), both)

    def test_one_moment_is_stay_first(self):
        for _, web, timetable in time_cases(84, 40):
            start, rooms = timetable[0]
            self.same(time_course(web, timetable[:1], 5), stay_course(web, start, rooms, 5))
            if can_stay(web, start, rooms):
                self.same(time_passes(web, timetable[:1]), table_of(web, start, rooms))
            self.same(can_keep(web, timetable[:1]), can_stay(web, start, rooms))
            self.same(at_rest(web, timetable[:1]), (start, rooms))

    def test_long(self):
        self.same(time_course(HALVES, DAYS, 16), stay_times(HALVES, DAYS, 16).course())
        self.same(time_course(HALVES, DAYS, 0), (ZERO,))
        self.same(time_kept(HALVES, DAYS, 0), ())
        # Rooms that open late do not call back what has passed.
        late = ((LEFT, ZERO), (ZERO, ((9, 9), 1)))
        self.same(time_course(TURN, late, 3), (ZERO, LEFT, LEFT, LEFT))
        self.same(time_kept(TURN, late, 3), (ZERO, ((0, 1), 1), ((0, 1), 1)))

    def test_refusals(self):
        good = [("web", HALVES), ("timetable", DAYS), ("many", 2)]
        bad = {"timetable": bad_timetables(), "many": bad_numbers()}
        for function in (time_course, time_kept):
            check_refusals(self, function, good, bad)
        for function in (at_rest, can_keep, time_passes, time_end):
            check_refusals(self, function, good[:2], bad)


class Ends(unittest.TestCase, Same, CheckNoRoom):
    def test_rests_and_ends(self):
        kept = {True: 0, False: 0}
        for wide in (2, 9):
            for _, web, timetable in time_cases(85 + wide, 80, wide):
                kept[self.check(web, timetable)] += 1
        self.assertGreater(min(kept.values()), 30)

    def check(self, web, timetable):
        last = len(timetable) - 1
        walk = stay_times(web, timetable, last + 1)
        before = walk.kept[last - 1] if last else [Fraction(0)] * size_of(web)
        left = load_of_values([room - one for room, one in zip(rooms_by(timetable, last), before)])
        stands = load_of_values(walk.stands[last])
        self.same(at_rest(web, timetable), (stands, left))
        self.same(at_rest(web=web, timetable=timetable), (stands, left))
        table = slow_table(web, stands, left)
        self.same(can_keep(web, timetable), table is not None)
        self.same(can_keep(web=web, timetable=timetable), table is not None)
        if table is None:
            for function in (time_passes, time_end):
                self.refuses_room(web, stands, left, function, web, timetable)
            return False
        passes = load_of_values([one + other for one, other in zip(walk.gone[last], values(table))])
        self.same(time_passes(web, timetable), passes)
        self.same(time_passes(web=web, timetable=timetable), passes)
        end = slow_end(web, coming_in_all(size_of(web), timetable), passes)
        self.same(time_end(web, timetable), end)
        self.same(time_end(web=web, timetable=timetable), end)
        self.assertTrue(is_within(end, timetable[-1][1]))
        return True

    def test_opened_and_gathered(self):
        for _, web, timetable in time_cases(88, 80, 4):
            size = size_of(web)
            wide, early = opened(size, timetable), gathered(size, timetable)
            course = time_course(web, timetable, 7)
            for less, more in zip(time_course(web, wide, 7), course):
                self.assertTrue(is_within(less, more))
            for less, more in zip(course, time_course(web, early, 7)):
                self.assertTrue(is_within(less, more))
            keeps = (can_keep(web, early), can_keep(web, timetable), can_keep(web, wide))
            self.assertEqual(keeps, tuple(sorted(keeps)))
            steady = steady_timetable(size, tuple(coming for coming, _ in timetable), timetable[0][1])
            start, rooms = coming_in_all(size, timetable), timetable[0][1]
            self.same(can_keep(web, steady), can_stay(web, start, rooms))
            if can_stay(web, start, rooms):
                self.same(time_passes(web, steady), table_of(web, start, rooms))
        # What comes before there is room for it goes on, and finds no room any more.
        web = (((0, 1), (0, 1)), 1)
        small, great = ((0, 1), 1), ((5, 1), 1)
        late, early = ((ZERO, small), (((2, 0), 1), great)), ((((2, 0), 1), small), (ZERO, great))
        self.same((can_keep(web, late), can_keep(web, gathered(2, late))), (True, False))
        self.same((can_keep(web, early), can_keep(web, opened(2, early))), (False, True))

    def test_stay_first_is_least(self):
        # (G9), and that the end of each sure rule that keeps to the timetable can be come to from time_end.
        for dice, web, timetable in time_cases(89, 60, 4):
            other = some_times(dice, web, timetable, 8)
            for least, gone in zip(time_course(web, timetable, 8), other.gone):
                self.assertTrue(all(one <= more for one, more in zip(values(least), gone)))
            last = len(timetable)
            walk = some_times(dice, web, timetable, last)
            stands = load_of_values(step_values(web, walk.goes[-1]))
            left = load_of_values([room - one for room, one in zip(rooms_by(timetable, last), walk.kept[-1])])
            if slow_table(web, stands, left) is not None:
                passes = [one + more for one, more in zip(walk.gone[-1], values(slow_table(web, stands, left)))]
                end = slow_end(web, coming_in_all(size_of(web), timetable), load_of_values(passes))
                self.same(can_keep(web, timetable), True)
                self.same(can_come(web, time_end(web, timetable), end), True)

    def test_told(self):
        self.same(can_keep(HALVES, DAYS), True)
        self.same(can_keep(HALVES, gathered(2, DAYS)), True)
        self.same(can_keep(TURN, ((LEFT, ZERO), (LEFT, LEFT))), False)
        self.refuses_room(TURN, ((1, 1), 1), LEFT, time_passes, TURN, ((LEFT, ZERO), (LEFT, LEFT)))
        # Passes that open rooms would have spared: no table of all that comes.
        late = ((LEFT, ZERO), (ZERO, ((1, 1), 1)))
        self.same((time_passes(TURN, late), time_end(TURN, late)), (LEFT, ((0, 1), 1)))
        self.same(time_passes(ALONE, ((((2,), 1), ((0,), 1)), (((0,), 1), ((2,), 1)))), ((2,), 1))


def slow_is_time_course(web, timetable, course):
    gone = [values(load) for load in course]
    if any(gone[0]):
        return False
    arrives = [Fraction(0)] * size_of(web)
    for t in range(len(course) - 1):
        goes = [one - other for one, other in zip(gone[t + 1], gone[t])]
        stands = [one + other for one, other in zip(arrives, came_at(timetable, t))]
        if not all(0 <= one <= other for one, other in zip(goes, stands)):
            return False
        arrives = step_values(web, goes)
    return True


def slow_keeps(web, timetable, course):
    came = [Fraction(0)] * size_of(web)
    for t in range(len(course) - 1):
        came = [one + other for one, other in zip(came, came_at(timetable, t))]
        comes = [one + other for one, other in zip(came, step_values(web, values(course[t])))]
        kept = [one - other for one, other in zip(comes, values(course[t + 1]))]
        if any(one > room for one, room in zip(kept, rooms_by(timetable, t))):
            return False
    return True


class TimeCourseKinds(unittest.TestCase, Same):
    def test_courses(self):
        kinds, keeps = {True: 0, False: 0}, {True: 0, False: 0}
        for dice, web, timetable in time_cases(90, 150):
            many = dice.randint(0, 8)
            free = TimeWalk(web, timetable, many, lambda t, i, stands, left: stands * Fraction(dice.randint(0, 2), 2))
            good = [time_course(web, timetable, many), free.course(), some_times(dice, web, timetable, many).course()]
            for course in good:
                self.same(is_time_course(web, timetable, course), True)
            for course in good + [bent(dice, course) for course in good]:
                fits = slow_is_time_course(web, timetable, course)
                kinds[fits] += 1
                self.same(is_time_course(web, timetable, course), fits)
                self.same(is_time_course(web=web, timetable=timetable, thing=course), fits)
                if fits:
                    held = slow_keeps(web, timetable, course)
                    keeps[held] += 1
                    self.same(keeps_to(web, timetable, course), held)
                    self.same(keeps_to(web=web, timetable=timetable, course=course), held)
                else:
                    refusal = raised(keeps_to, web, timetable, course)
                    self.same(fields_of(refusal), ("NotUsable", ("course", -1)))
            self.same((keeps_to(web, timetable, good[0]), keeps_to(web, timetable, good[2])), (True, True))
        self.assertGreater(min(list(kinds.values()) + list(keeps.values())), 50)

    def test_told(self):
        self.same(is_time_course(TURN, DAYS, (ZERO,)), True)
        self.same(keeps_to(TURN, DAYS, (ZERO,)), True)
        self.same(keeps_to(TURN, DAYS, (ZERO, ZERO)), False)
        self.same(keeps_to(TURN, DAYS, (ZERO, ((1, 0), 2))), True)
        # Only at moment 1 the half comes to place 1, with what has gone on from 0.
        self.same(is_time_course(TURN, DAYS, (ZERO, LEFT, ((2, 3), 2))), True)
        self.same(is_time_course(TURN, DAYS, (ZERO, LEFT, ((1, 2), 1))), False)
        self.same(is_time_course(TURN, DAYS, (ZERO, ((0, 1), 2))), False)
        self.same(keeps_to(TURN, DAYS, (ZERO, LEFT, LEFT)), False)
        self.same(keeps_to(TURN, DAYS, (ZERO, LEFT, ((2, 1), 2))), True)
        self.same(keeps_to(TURN, DAYS, (ZERO, LEFT, ((2, 1), 2), ((3, 1), 2), ((3, 2), 2))), True)

    def test_what_is_no_course(self):
        wrong = [None, True, 0, "", (), ZERO, [ZERO], (None,), (no_load(3),), (LEFT,), (ZERO, None), (ZERO, ZERO, [LEFT]),
                 (ZERO, ((2, 0), 1)), (ZERO, LEFT, ZERO)] + [(ZERO, load) for load in bad_loads(2)]
        for thing in wrong:
            self.same(is_time_course(TURN, DAYS, thing), False)
        good = [("web", TURN), ("timetable", DAYS), ("course", (ZERO, LEFT))]
        check_refusals(self, keeps_to, good, {"timetable": bad_timetables(), "course": wrong})
        good[2] = ("thing", (ZERO,))
        check_refusals(self, is_time_course, good, {"timetable": bad_timetables()})


NUMBER = "(0|[1-9][0-9]*)"
LOAD = NUMBER + "(," + NUMBER + ")*/[1-9][0-9]*"
FORM = re.compile(LOAD + "<" + LOAD + "( " + LOAD + "<" + LOAD + ")*")
GOES_ON = ("", "0/1<0/1", "/1<0/1", "1<0/1", "<0/1", "0/1", "/1", "1")


def slow_fault(text):
    """The first position such that no text of the form begins so, the length if it ends too soon, None."""
    for at in range(len(text)):
        if not any(FORM.fullmatch(text[:at + 1] + more) for more in GOES_ON):
            return at
    return None if FORM.fullmatch(text) else len(text)


class Lines(unittest.TestCase, Same):
    def test_written_and_read(self):
        dice = random.Random(91)
        for _ in range(60):
            timetable = random_timetable(dice, dice.randint(1, 9), dice.randint(1, 6))
            words = []
            for pair in timetable:
                words.append("<".join(",".join(map(str, tops)) + "/" + str(bottom) for tops, bottom in pair))
            line = " ".join(words)
            self.same(timetable_line(timetable), line)
            self.same(timetable_line(timetable=timetable), line)
            self.same(read_timetable(line), timetable)
            self.same(read_timetable(text=line), timetable)
        self.same(timetable_line((((((0,), 1), ((10 ** 15,), 10 ** 12 + 1)),))), "0/1<1000000000000000/1000000000001")

    def refuses_text(self, text, at):
        self.same(fields_of(raised(read_timetable, text)), ("InvalidText", (0, at)), text)

    def test_bent_texts(self):
        line = "10,0/2<3,1/10 0,7/3<1,1/1"
        self.assertIsNone(slow_fault(line))
        for at in range(len(line)):
            self.refuses_text(line[:at], at) if slow_fault(line[:at]) == at else self.check_text(line[:at])
            self.check_text(line[:at] + line[at + 1:])
            for sign in "0123456789,/<> ;.-+\n\tx":
                self.check_text(line[:at] + sign + line[at:])
                self.check_text(line[:at] + sign + line[at + 1:])
        for sign in "0123456789,/<> ;.-+\n":
            self.check_text(line + sign)

    def check_text(self, text):
        at = slow_fault(text)
        if at is not None:
            self.refuses_text(text, at)
            return
        refusal = raised(read_timetable, text)
        if refusal is None:
            self.same(timetable_line(read_timetable(text)), text)
        else:
            self.same(type(refusal).__name__, "InvalidRow")

    def test_texts_told(self):
        for text, at in (
            ("", 0), (" ", 0), ("<", 0), ("/", 0), ("1", 1), ("1,", 2), ("1/", 2), ("1/0", 2), ("1/1", 3), ("1/1 ", 3),
            ("1/1<", 4), ("1/1<1", 5), ("1/1<1/", 6), ("1/1<1/1 ", 8), ("1/1<1/1  ", 8), ("1/1<1/1<", 7),
            ("1/1<1/1\n", 7), ("01/1<1/1", 1), ("1/01<1/1", 2), ("1/1<00/1", 5), ("1;1/1<1,1/1", 1), ("-1/1<1/1", 0),
            (" 1/1<1/1", 0), ("1/1 <1/1", 3), ("1/1< 1/1", 4), ("1/1<1/1 1/1", 11), ("1,/1<1/1", 2), ("x" * 4000, 0),
            ("1/1<1/1 <1/1", 8), ("1/1<1/1,1", 7), ("1/1<1/1/1", 7),
        ):
            self.refuses_text(text, at)

    def test_rows_told(self):
        for text, row in (
            ("2/2<1/1", 0), ("1/1<0/2", 0), ("1,0/1<1/1", 0), ("1/1<1,0/1", 0), ("1/1<1/1 1,0/1<1,0/1", 1),
            ("1/1<1/1 1/1<0/1", 1), ("1/1<1/1 1/1<1/2", 1), ("1/1<1/1 1/1<1/1 4/2<1/1", 2), ("1/1<1/1 1/1<1/1 1/2<2/6", 2),
            ("0,0/2<0,0/1", 0), ("1/1<1/1 1/1<2/1 1/1<1/1", 2), ("1/1<2/2 2/2<0/1", 0), ("1/1<1/1 1/1<0/1 2/2<1/1", 1),
            ("1/1<1/1 1/1<1,1/1", 1), ("1,1/1<1,1/1 1/1<1,1/1", 1),
        ):
            self.assertIsNone(slow_fault(text))
            self.same(fields_of(raised(read_timetable, text)), ("InvalidRow", (row,)), text)
        self.same(read_timetable("1/1<1/1 1/1<1/1"), ((((1,), 1), ((1,), 1)),) * 2)

    def test_refusals(self):
        for thing in (None, True, 0, (), ("1/1<1/1",), ["1/1<1/1"], DAYS):
            self.same(fields_of(raised(read_timetable, thing)), ("NotUsable", ("text", -1)))
            self.same(fields_of(raised(read_timetable, text=thing)), ("NotUsable", ("text", -1)))
        wrong = [None, True, 0, "", "1/1<1/1", (), [], list(DAYS), DAYS[0], DAYS[::-1], (DAYS[0], None), ((ZERO, no_load(3)),),
                 (DAYS,), ((LEFT,),), (((), ()),), ((((), 1), ((), 1)),), (((None, 1), LEFT),), ((None, LEFT),),
                 (DAYS[0], (no_load(1), no_load(1))), ((LEFT, ((1, 0), True)),), ((((True, 0), 1), LEFT),), (None,),
                 ((([1, 0], 1), LEFT),), (("10", LEFT),), (("1", "1"),)]
        check_refusals(self, timetable_line, [("timetable", DAYS)], {"timetable": wrong})


class TimesClass(unittest.TestCase, Same, CheckNoRoom):
    def test_methods(self):
        kept = {True: 0, False: 0}
        for dice, web, timetable in time_cases(92, 80, 5):
            times = Times(web, timetable)
            self.same(len(times), len(timetable))
            self.same(tuple(times), timetable)
            self.same([pair for pair in times], list(timetable))
            self.same(times.all_comings, coming_in_all(size_of(web), timetable))
            self.same(times.told_line, timetable_line(timetable))
            self.same(times.both_given(), (web, timetable))
            for many in (0, 3):
                self.same(times.passes_to(many), time_course(web, timetable, many))
                self.same(times.passes_to(many=many), time_course(web, timetable, many))
                self.same(times.stays_to(many), time_kept(web, timetable, many))
                self.same(times.stays_to(many=many), time_kept(web, timetable, many))
            self.same(times.at_last(), at_rest(web, timetable))
            self.same(times.can_hold(), can_keep(web, timetable))
            kept[times.can_hold()] += 1
            if times.can_hold():
                self.same(times.passes_in_all(), time_passes(web, timetable))
                self.same(times.stays_in_all(), time_end(web, timetable))
            else:
                for method in (times.passes_in_all, times.stays_in_all):
                    self.refuses_room(web, *at_rest(web, timetable), method)
            course = some_times(dice, web, timetable, 3).course()
            self.same(times.is_kept_by(course), keeps_to(web, timetable, course))
            self.same(times.is_kept_by(course=course), True)
            moments = range(len(timetable))
            gone, stays = time_course(web, timetable, len(timetable)), time_kept(web, timetable, len(timetable))
            self.same(list(times.through()), [(t, gone[t], stays[t]) for t in moments])
            self.check_new(dice, times, web, timetable)
            self.same(times.both_given(), (web, timetable))
            self.assertTrue(times == Times(web, timetable))
        self.assertGreater(min(kept.values()), 20)

    def check_new(self, dice, times, web, timetable):
        coming, last = random_load(dice, size_of(web)), timetable[-1][1]
        wider = added(last, random_load(dice, size_of(web)))
        for made, told in (
            (times.next_moment(coming), timetable + ((coming, last),)),
            (times.next_moment(coming=coming, rooms=None), timetable + ((coming, last),)),
            (times.next_moment(coming, rooms=wider), timetable + ((coming, wider),)),
            (times.next_moment(coming, rooms=last), timetable + ((coming, last),)),
            (times.delayed(), ((no_load(size_of(web)), timetable[0][1]),) + timetable),
            (times.delayed(many=0), timetable),
            (times.delayed(many=3), ((no_load(size_of(web)), timetable[0][1]),) * 3 + timetable),
            (Times.read_times(web, times.told_line), timetable),
            (Times.read_times(web=web, text=times.told_line), timetable),
            (times.read_times(web, times.told_line), timetable),
        ):
            self.assertIs(type(made), Times)
            self.assertIsNot(made, times)
            self.same(made.both_given(), (web, told))

    def test_delayed_courses(self):
        for _, web, timetable in time_cases(93, 30):
            later = Times(web, timetable).delayed(many=2)
            zero = no_load(size_of(web))
            self.same(later.passes_to(7), (zero, zero) + time_course(web, timetable, 5))
            self.same(later.can_hold(), can_keep(web, timetable))

    def test_equal(self):
        one = Times(HALVES, DAYS)
        self.assertTrue(one == Times(HALVES, DAYS))
        self.assertFalse(one != Times(HALVES, DAYS))
        for other in (Times(TURN, DAYS), Times(HALVES, DAYS[:1]), Times(HALVES, opened(2, DAYS)), one.delayed(), DAYS, None,
                      (HALVES, DAYS), True, 2, "", one.told_line):
            self.assertFalse(one == other)
            self.assertTrue(one != other)
        self.assertTrue(one == one.delayed(many=0))

    def test_refusals(self):
        good = [("web", HALVES), ("timetable", DAYS)]
        check_refusals(self, Times, good, {"web": WRONG_WEBS, "timetable": bad_timetables()})
        times = Times(HALVES, DAYS)
        for thing in bad_numbers():
            for method in (times.passes_to, times.stays_to):
                self.same(fields_of(raised(method, thing)), ("NotUsable", ("many", -1)))
            self.same(fields_of(raised(times.delayed, many=thing)), ("NotUsable", ("many", -1)))
        for thing in bad_loads(2):
            self.same(fields_of(raised(times.next_moment, thing)), ("NotUsable", ("coming", -1)))
            self.same(fields_of(raised(times.next_moment, thing, rooms=thing)), ("NotUsable", ("coming", -1)))
            if thing is not None:
                self.same(fields_of(raised(times.next_moment, LEFT, rooms=thing)), ("NotUsable", ("rooms", -1)))
        for rooms in (ZERO, LEFT, ((9, 10), 10)):
            self.same(fields_of(raised(times.next_moment, LEFT, rooms=rooms)), ("NotUsable", ("rooms", -1)))
        for thing in (None, True, (), (LEFT,), [ZERO], (ZERO, ((3, 0), 1))):
            self.same(fields_of(raised(times.is_kept_by, thing)), ("NotUsable", ("course", -1)))
        for call in (lambda: times.next_moment(LEFT, LEFT), lambda: times.delayed(1)):
            with self.assertRaises(TypeError):
                call()
        self.same(times.both_given(), (HALVES, DAYS))

    def test_read_times(self):
        line = timetable_line(DAYS)
        for web in WRONG_WEBS:
            self.same(fields_of(raised(Times.read_times, web, line)), ("NotUsable", ("web", -1)))
            self.same(fields_of(raised(Times.read_times, web, None)), ("NotUsable", ("web", -1)))
            self.same(fields_of(raised(Times.read_times, web, "1")), ("NotUsable", ("web", -1)))
        for thing in (None, True, 0, DAYS):
            self.same(fields_of(raised(Times.read_times, HALVES, thing)), ("NotUsable", ("text", -1)))
        self.same(fields_of(raised(Times.read_times, BOARD, line[:-1])), ("InvalidText", (0, len(line) - 1)))
        self.same(fields_of(raised(Times.read_times, FORK, "1,0/1<1,0/1 1/1<1/1")), ("InvalidRow", (1,)))
        for web in (FORK, ALONE, BOARD):
            self.same(fields_of(raised(Times.read_times, web, line)), ("NotUsable", ("text", -1)))
        self.same(Times.read_times(TURN, line).both_given(), (TURN, DAYS))

    def test_others(self):
        times = Times(FORK, ((ONE, ((0, 1, 1), 4)),)).next_moment(no_load(3), rooms=((0, 1, 2), 4))
        self.same((times.can_hold(), len(times)), (False, 2))
        self.same(times.told_line, "1,0,0/1<0,1,1/4 0,0,0/1<0,1,2/4")
        self.same(times.next_moment(no_load(3), rooms=((0, 1, 3), 4)).can_hold(), True)
        self.same(taken(times.all_comings, ONE), no_load(3))
