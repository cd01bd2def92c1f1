"""Pairs of memories and places, and courses, of machines ([65], [66])."""

import random
import unittest
from fractions import Fraction

from stayorgo.loads import no_load, weight_of
from stayorgo.machinecourses import machine_course, memory_course
from stayorgo.machinemaking import coin_machine, go_machine, waits_machine
from stayorgo.machinepairs import is_sure, pairs_of, staying_pairs, stuck_pairs
from stayorgo.webmaking import ring_web

from tests.support import (
    BOARD, FORK, HALVES, ONE, TURN, MachineWalk, Same, bad_loads, bad_machines, bad_numbers, check_refusals, flooded,
    load_of_values, machine_cases, random_load, random_machine, size_of, slow_stuck,
)

LEFT = ((1, 0), 1)
ONCE = waits_machine(2, 1)
NEVER = coin_machine(((0, 1), (0, 1)))
# Begins with memory 0 and, from place 0, goes on with memory 1, with which it never stays; from place 1 it stays.
CAUGHT = ((2, 0), (((0, 1), (0, 0)), ((0, 2), (0, 2))), 2)


class Pairs(unittest.TestCase, Same):
    def check(self, web, start, machine):
        leads = flooded(web, start, machine)
        stays = tuple(pair for pair in leads if sum(machine[1][pair[0]][pair[1]]) < machine[2])
        stuck = slow_stuck(web, start, machine)
        self.same(pairs_of(web, start, machine), tuple(leads))
        self.same(staying_pairs(web, start, machine), stays)
        self.same(stuck_pairs(web, start, machine), stuck)
        self.same(is_sure(web, start, machine), stuck == ())
        for function in (pairs_of, staying_pairs, stuck_pairs, is_sure):
            named = function(web=web, start=start, machine=machine)
            self.same(named, function(web, start, machine))
        return len(leads), len(stays), len(stuck)

    def test_against_an_own_flood(self):
        told = set()
        for _, web, start, machine in machine_cases(200, 300, 5):
            many, stays, stuck = self.check(web, start, machine)
            told.add((many > 0, stays > 0, stuck > 0, stuck == many, many == size_of(web) * len(machine[0])))
        for held in ((False, False, False, True), (True, True, False, False), (True, True, True, False),
                     (True, False, True, True)):
            self.assertIn(held, {some[:4] for some in told})
        self.assertEqual({some[4] for some in told}, {False, True})

    def test_nothing_comes(self):
        dice = random.Random(201)
        for web in (FORK, TURN, BOARD):
            for _ in range(5):
                machine = random_machine(dice, size_of(web))
                start = no_load(size_of(web))
                self.same(pairs_of(web, start, machine), ())
                self.same(staying_pairs(web, start, machine), ())
                self.same(stuck_pairs(web, start, machine), ())
                self.same(is_sure(web, start, machine), True)

    def test_told(self):
        self.same(pairs_of(TURN, LEFT, ONCE), ((0, 0), (1, 1)))
        self.same(staying_pairs(TURN, LEFT, ONCE), ((1, 1),))
        self.same(stuck_pairs(TURN, LEFT, NEVER), ((0, 0), (0, 1)))
        self.same(stuck_pairs(TURN, LEFT, CAUGHT), ((1, 0), (1, 1)))
        self.same(pairs_of(TURN, LEFT, CAUGHT), ((0, 0), (1, 0), (1, 1)))
        self.same(staying_pairs(TURN, LEFT, CAUGHT), ((0, 0),))
        self.same(is_sure(TURN, LEFT, CAUGHT), False)
        self.same(is_sure(TURN, ((0, 1), 1), CAUGHT), True)
        self.same(stuck_pairs(TURN, ((0, 1), 1), CAUGHT), ())
        # A memory with which nothing begins, and to which nothing leads.
        lonely = ((1, 0), (((0, 0),) * 2, ((0, 1),) * 2), 1)
        self.same(pairs_of(TURN, ((1, 1), 1), lonely), ((0, 0), (0, 1)))

    def test_stays_at_one_place_alone(self):
        for place in range(4):
            start = ((1, 0, 0, 0), 1)
            for coin in ((1, 1), (1, 2)):
                machine = coin_machine(tuple(coin if i == place else (0, 1) for i in range(4)))
                self.check(BOARD, start, machine)
                self.same(is_sure(BOARD, start, machine), coin == (1, 1) or place == 3)
                self.same(staying_pairs(BOARD, start, machine), ((0, place),))
        self.same(stuck_pairs(BOARD, ((1, 1, 1, 0), 1), coin_machine(((0, 1), (1, 9), (0, 1), (0, 1)))), ((0, 3),))

    def test_never_stays_with_some_memory(self):
        # With memory 0 nothing stays, but each time half of it goes on with memory 1, with which all stays.
        machine = ((2, 0), (((1, 1),) * 2, ((0, 0),) * 2), 2)
        self.check(TURN, LEFT, machine)
        self.same(staying_pairs(TURN, LEFT, machine), ((1, 0), (1, 1)))
        self.same(is_sure(TURN, LEFT, machine), True)

    def test_greatest(self):
        machine = go_machine(((5, (1, 2)),) * 2)
        self.check(HALVES, LEFT, machine)
        wide = waits_machine(2, 19)
        self.same(len(pairs_of(HALVES, LEFT, wide)), 39)
        self.check(TURN, LEFT, wide)
        dice = random.Random(202)
        for _ in range(4):
            self.check(ring_web(6), random_load(dice, 6), random_machine(dice, 6, 4))


class Courses(unittest.TestCase, Same):
    def check(self, web, start, machine, many):
        walk = MachineWalk(web, start, machine, many)
        told = tuple(tuple(load_of_values(row) for row in stands) for stands in walk.stands)
        self.same(machine_course(web, start, machine, many), walk.course())
        self.same(machine_course(web=web, start=start, machine=machine, many=many), walk.course())
        self.same(memory_course(web, start, machine, many), told)
        self.same(memory_course(web=web, start=start, machine=machine, many=many), told)
        return walk

    def test_walked_moment_by_moment(self):
        for dice, web, start, machine in machine_cases(203, 150, 5):
            walk = self.check(web, start, machine, dice.randint(0, 6))
            # What stands, has stayed and has yet to stay is the start.
            for many, stands in enumerate(walk.stands):
                kept = sum(sum(row) for row in walk.kept[:many])
                self.assertEqual(kept + sum(sum(row) for row in stands), Fraction(*weight_of(start)))

    def test_many_0(self):
        for _, web, start, machine in machine_cases(204, 40):
            self.same(machine_course(web, start, machine, 0), (no_load(size_of(web)),))
            self.same(len(memory_course(web, start, machine, 0)), 1)
            self.check(web, start, machine, 0)

    def test_told(self):
        coin = coin_machine(((1, 3), (1, 1)))
        self.same(machine_course(HALVES, LEFT, coin, 2), (((0, 0), 1), ((2, 0), 3), ((8, 0), 9)))
        self.same(memory_course(TURN, LEFT, ONCE, 1), ((LEFT, ((0, 0), 1)), (((0, 0), 1), ((0, 1), 1))))
        self.same(machine_course(TURN, LEFT, NEVER, 3), (((0, 0), 1), LEFT, ((1, 1), 1), ((2, 1), 1)))
        # What stayed earlier is not told.
        self.same(memory_course(TURN, LEFT, ONCE, 3)[2:], ((((0, 0), 1),) * 2,) * 2)

    def test_greatest(self):
        dice = random.Random(205)
        self.check(BOARD, random_load(dice, 4), random_machine(dice, 4, 4), 16)
        self.check(HALVES, LEFT, waits_machine(2, 19), 16)
        self.same(machine_course(TURN, LEFT, waits_machine(2, 19), 16)[-1], ((8, 8), 1))

    def test_refusals(self):
        good = [("web", FORK), ("start", ONE), ("machine", waits_machine(3, 1))]
        bad = {"start": bad_loads(3), "machine": bad_machines(3) + [ONCE], "many": bad_numbers()}
        for function in (pairs_of, staying_pairs, stuck_pairs, is_sure):
            check_refusals(self, function, good, bad)
        for function in (machine_course, memory_course):
            check_refusals(self, function, good + [("many", 2)], bad)
