"""Stage 3: steps, shares, rings, visits."""

import random
import unittest
from fractions import Fraction

from stayorgo.kinds import is_spread
from stayorgo.loads import no_load, unit_load, weight_of
from stayorgo.rings import is_ring, ring_in
from stayorgo.solving import is_left, visits_in
from stayorgo.stepping import shares_of, step_course, stepped, walked

from tests.support import (
    ALONE, BOARD, CIRCLE, FORK, HALVES, ONE, THREE_LOTS, TURN, TWO_LOTS, WEBS, Same, bad_loads, bad_numbers, bad_sets,
    check_refusals, load_of_values, random_load, random_web, size_of, slow_flow, slow_lots, step_values, subsets,
    values,
)


def all_webs(seed, many=25):
    dice = random.Random(seed)
    return dice, WEBS + tuple(random_web(dice) for _ in range(many))


def is_slow_ring(web, thing):
    pairs = list(zip(thing, thing[1:] + thing[:1]))
    return len(set(thing)) == len(thing) > 0 and all(web[0][i][j] > 0 for i, j in pairs)


class Steps(unittest.TestCase, Same):
    def test_steps(self):
        dice, webs = all_webs(20)
        for web in webs:
            start = random_load(dice, size_of(web))
            stand = values(start)
            course = [start]
            for _ in range(16):
                stand = step_values(web, stand)
                course.append(load_of_values(stand))
            self.same(stepped(web, start), course[1])
            self.same(step_course(web, start, 16), tuple(course))
            for many in (0, 1, 2, 16):
                self.same(walked(web, start, many), course[many])
                self.same(step_course(web, start, many), tuple(course[:many + 1]))
                self.same(weight_of(course[many]), weight_of(start))

    def test_by_name(self):
        self.same(stepped(web=FORK, start=ONE), ((0, 1, 1), 2))
        self.same(walked(web=FORK, start=ONE, many=2), ((0, 0, 1), 1))
        self.same(step_course(web=FORK, start=ONE, many=0), (ONE,))

    def test_refusals(self):
        check_refusals(self, stepped, [("web", FORK), ("start", ONE)], {"start": bad_loads(3)})
        for function in (walked, step_course):
            good = [("web", FORK), ("start", ONE), ("many", 0)]
            check_refusals(self, function, good, {"start": bad_loads(3), "many": bad_numbers()})

    def test_shares(self):
        _, webs = all_webs(21)
        for web in webs:
            for lot in slow_lots(web):
                shares = shares_of(web, lot)
                self.assertTrue(is_spread(size_of(web), shares))
                self.same(stepped(web, shares), shares)
                self.assertEqual(tuple(i for i, top in enumerate(shares[0]) if top > 0), lot)
        self.same(shares_of(CIRCLE, closed=(0, 1, 2)), ((1, 2, 2), 5))
        self.same(shares_of(ALONE, (0,)), ((1,), 1))
        self.same(shares_of(TWO_LOTS, (3, 4)), ((0, 0, 0, 1, 1), 2))

    def test_shares_refuse(self):
        wrong = bad_sets(5) + [(), (0,), (3,), (4,), (2, 3), (2, 3, 4), (4, 3), [2], (2, True)]
        check_refusals(self, shares_of, [("web", TWO_LOTS), ("closed", (3, 4))], {"closed": wrong})
        good = [("web", TURN), ("closed", (0, 1))]
        check_refusals(self, shares_of, good, {"closed": [(False, True), (0, True), (1,)]})


class Rings(unittest.TestCase, Same):
    def test_ring_in(self):
        _, webs = all_webs(22)
        for web in webs:
            for places in subsets(range(size_of(web))):
                ring = ring_in(web, places)
                some = self.has_ring(web, places)
                if ring is None:
                    self.assertFalse(some, (web, places))
                else:
                    self.assertIs(type(ring), tuple)
                    self.assertTrue(is_slow_ring(web, ring) and set(ring) <= set(places), (web, places))
                    self.same(is_ring(web, ring), True)
                if any(set(lot) <= set(places) for lot in slow_lots(web)):
                    self.assertIsNotNone(ring)

    def has_ring(self, web, places):
        for first in places:
            reached = {j for j in places if web[0][first][j] > 0}
            for _ in places:
                reached = reached | {j for i in reached for j in places if web[0][i][j] > 0}
            if first in reached:
                return True
        return False

    def test_ring_in_at_the_bounds(self):
        self.same(ring_in(BOARD, ()), None)
        self.same(ring_in(BOARD, (0,)), None)
        self.same(ring_in(ALONE, (0,)), (0,))
        self.same(ring_in(web=BOARD, places=(3,)), (3,))
        check_refusals(self, ring_in, [("web", BOARD), ("places", ())], {"places": bad_sets(4)})

    def test_is_ring(self):
        for thing in ((0, 1), (1, 0), (1, 2), (2, 1), (3,)):
            self.same(is_ring(BOARD, thing), True, thing)
        for thing in ((), (0,), (1,), (0, 2), (1, 2, 3), (3, 3), (0, 1, 0, 1), (2, 3), (4,), (-1,), (0, 1, 2)):
            self.same(is_ring(BOARD, thing), False, thing)
        for thing in (None, True, 0, 3, "", "01", [3], [0, 1], (True, 0), (0, True), (False, 1), (None,), ("3",),
                      ((3,),), (10 ** 59,), (3,) * 4000, ([3],), (3, [3]), (None, [0, 1])):
            self.same(is_ring(BOARD, thing), False, thing)
        self.same(is_ring(CIRCLE, thing=(2, 0, 1)), True)
        self.same(is_ring(CIRCLE, (2, 1, 0)), False)
        self.same(is_ring(CIRCLE, (2, 1)), True)
        self.same(is_ring(HALVES, (1,)), True)


class Visits(unittest.TestCase, Same):
    def test_is_left(self):
        _, webs = all_webs(23)
        for web in webs:
            for places in subsets(range(size_of(web))):
                held = any(set(lot) <= set(places) for lot in slow_lots(web))
                self.same(is_left(web, places), not held)
        self.same(is_left(web=TURN, places=()), True)
        self.same(is_left(TURN, (0, 1)), False)
        check_refusals(self, is_left, [("web", BOARD), ("places", ())], {"places": bad_sets(4)})

    def test_visits_hold_their_own_equation(self):
        dice, webs = all_webs(24)
        for web in webs:
            start = random_load(dice, size_of(web))
            for places in subsets(range(size_of(web))):
                if not is_left(web, places):
                    continue
                visits = visits_in(web, places, start)
                self.same(visits, load_of_values(slow_flow(web, places, values(start))))
                numbers = values(visits)
                come = step_values(web, numbers)
                for place in range(size_of(web)):
                    expected = values(start)[place] + come[place] if place in places else Fraction(0)
                    self.assertEqual(numbers[place], expected)

    def test_start_elsewhere_changes_nothing(self):
        self.same(visits_in(BOARD, (0, 1), ((1, 0, 0, 0), 1)), visits_in(BOARD, (0, 1), ((1, 0, 5, 7), 1)))
        self.same(visits_in(BOARD, (1, 2), ((5, 0, 0, 0), 1)), no_load(4))
        self.same(visits_in(BOARD, (), ((5, 1, 2, 3), 7)), no_load(4))
        self.same(visits_in(web=TURN, places=(1,), start=unit_load(2, 1)), ((0, 1), 1))

    def test_refusals(self):
        good = [("web", THREE_LOTS), ("places", (0, 2)), ("start", no_load(5))]
        wrong = bad_sets(5) + [(1,), (4,), (2, 3), (0, 1), (0, 1, 2, 3, 4)]
        check_refusals(self, visits_in, good, {"places": wrong, "start": bad_loads(5)})
