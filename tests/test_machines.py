"""Stage 16 without pairs: machines judged and made."""

import random
import unittest
from fractions import Fraction
from math import gcd

from stayorgo.brinkcourses import go_by, stay_by
from stayorgo.brinks import go_brinks
from stayorgo.coins import coin_course
from stayorgo.machinechecker import is_machine, lets_machine
from stayorgo.machinemaking import coin_machine, go_machine, stay_machine, waits_machine

from tests.support import (
    HALVES, TURN, WEBS, Same, bad_brinks, bad_coins, bad_numbers, check_refusals, load_of_values, random_load, size_of,
    step_values, values,
)
from tests.test_courses import random_brinks

ONCE = ((1, 0), (((0, 1), (0, 1)), ((0, 0), (0, 0))), 1)
LEFT = ((1, 0), 1)


def machine_walk(web, start, machine, many):
    """The course of a machine, by what stands with each memory."""
    firsts, goes, bottom = machine
    memories, places = range(len(firsts)), range(size_of(web))
    stands = [[Fraction(first, bottom) * one for one in values(start)] for first in firsts]
    course = [[Fraction(0)] * size_of(web)]
    for _ in range(many):
        goes_on = [
            [sum(stands[s][i] * Fraction(goes[s][i][q], bottom) for s in memories) for i in places] for q in memories
        ]
        course.append([one + sum(row[i] for row in goes_on) for i, one in enumerate(course[-1])])
        stands = [step_values(web, row) for row in goes_on]
    return tuple(load_of_values(numbers) for numbers in course)


def slow_machine(size, shares):
    """The machine with, for each memory and place, a share that goes on with the next memory."""
    many = len(shares)
    bottom = 1
    for row in shares:
        for share in row:
            bottom = bottom * share.denominator // gcd(bottom, share.denominator)
    goes = []
    for s in range(many):
        row = []
        for i in range(size):
            numbers = [0] * many
            numbers[min(s + 1, many - 1)] = int(shares[s][i] * bottom)
            row.append(tuple(numbers))
        goes.append(tuple(row))
    return ((bottom,) + (0,) * (many - 1), tuple(goes), bottom)


class Checker(unittest.TestCase, Same):
    def good(self):
        yield 1, ((1,), (((0,),),), 1)
        yield 1, ((1,), (((1,),),), 1)
        yield 2, ONCE
        yield 2, ((1, 2), (((3, 0), (0, 0)), ((1, 2), (0, 1))), 3)
        yield 3, ((2, 0, 5), (((7, 0, 0),) * 3, ((1, 2, 3),) * 3, ((0, 0, 0),) * 3), 7)
        yield 1, ((4,), (((3,),),), 4)
        yield 9, ((1,), (((1,),) * 9,), 1)

    def test_machines_are_let(self):
        for size, machine in self.good():
            self.same(lets_machine(size, machine), len(machine[0]))
            self.same(lets_machine(size=size, thing=machine), len(machine[0]))
            self.same(is_machine(size, machine), True)
            self.same(is_machine(size=size, thing=machine), True)
            self.refuses_paper("memory", 0, lets_machine, size + 1, machine)

    def refuses(self, word, at, size, thing):
        self.refuses_paper(word, at, lets_machine, size, thing)
        self.same(is_machine(size, thing), False)

    def test_shape_and_bottom(self):
        firsts, goes, bottom = ONCE
        for thing in (None, True, 3, "", "abc", (), (firsts, goes), (firsts, goes, bottom, 1), list(ONCE), (1,), [1, 2, 3]):
            self.refuses("shape", -1, 2, thing)
        for wrong in (0, -1, True, None, "1", (1,), [1], -10 ** 59):
            self.refuses("bottom", 2, 2, (firsts, goes, wrong))
            self.refuses("bottom", 2, 2, (None, None, wrong))

    def test_firsts_and_goes(self):
        _, goes, _ = ONCE
        for firsts in (None, True, 1, "10", (), [1, 0], (1, 1), (0, 0), (2, 0), (2, -1), (True, 0), (1, False), (1, None),
                       ("1", 0), ((1,), 0), (1, "0")):
            self.refuses("firsts", 0, 2, (firsts, goes, 1))
            self.refuses("firsts", 0, 2, (firsts, None, 1))
        for wrong in (None, True, 1, "10", (), list(goes), goes[:1], goes + goes[:1], goes[0][0]):
            if wrong != (0, 1):
                self.refuses("goes", 1, 2, ((1, 0), wrong, 1))
        self.refuses("memory", 0, 2, ((1, 0), (0, 1), 1))

    def test_memories_rows_and_sums(self):
        fine = ((0, 1), (1, 0))
        for wrong in (None, True, 1, "ab", (), [(0, 1), (0, 1)], ((0, 1),), ((0, 1),) * 3):
            self.refuses("memory", 0, 2, ((1, 0), (wrong, fine), 1))
            self.refuses("memory", 1, 2, ((1, 0), (fine, wrong), 1))
            self.refuses("memory", 0, 2, ((1, 0), (wrong, None), 1))
        for wrong in (None, True, 1, "01", (), [0, 1], (0,), (0, 1, 0), (0, -1), (0, True), (0, None), (0, "1"), (0, (1,))):
            for place in range(2):
                row = ((0, 1), wrong) if place else (wrong, (0, 1))
                self.refuses("row", (0, place), 2, ((1, 0), (row, fine), 1))
                self.refuses("row", (1, place), 2, ((1, 0), (fine, row), 1))
                self.refuses("row", (0, place), 2, ((1, 0), (row, None), 1))
        for wrong in ((1, 1), (0, 2), (10 ** 59, 0)):
            for place in range(2):
                row = ((0, 1), wrong) if place else (wrong, None)
                self.refuses("sum", (0, place), 2, ((1, 0), (row, fine), 1))
                row = ((0, 1), wrong) if place else (wrong, (0, 1))
                self.refuses("sum", (1, place), 2, ((1, 0), (fine, row), 1))
                self.refuses("sum", (0, place), 2, ((1, 0), (row, None), 1))

    def test_terms(self):
        self.refuses("terms", -1, 1, ((2,), (((0,),),), 2))
        self.refuses("terms", -1, 2, ((3, 3), (((0, 3), (3, 3)), ((6, 0), (0, 0))), 6))
        self.refuses("terms", -1, 1, ((10,), (((5,),),), 10))
        self.refuses("sum", (0, 0), 1, ((2,), (((4,),),), 2))
        self.same(is_machine(2, ((3, 3), (((0, 3), (3, 3)), ((6, 0), (0, 1))), 6)), True)
        self.same(is_machine(2, ((1, 5), (((0, 3), (3, 3)), ((6, 0), (0, 0))), 6)), True)

    def test_first_of_two_faults(self):
        fine = ((0, 1), (1, 0))
        told = (
            ("bottom", 2, ((), (), 0)), ("firsts", 0, ((), (), 1)), ("goes", 1, ((2, 0), (), 2)),
            ("memory", 0, ((1, 0), ((), ()), 1)), ("row", (0, 1), ((1, 0), (((0, 1), ()), ()), 1)),
            ("sum", (0, 0), ((1, 0), (((1, 1), ()), ()), 1)), ("sum", (0, 1), ((2, 0), (((0, 2), (2, 2)), fine), 2)),
            ("row", (1, 0), ((2, 0), (((0, 2), (0, 2)), ((), (4, 0))), 2)),
            ("memory", 1, ((2, 0), (((0, 2), (0, 2)), ((0, 2),)), 2)), ("row", (0, 0), ((1, 0), (((), (1, 1)), fine), 1)),
        )
        for word, at, thing in told:
            self.refuses(word, at, 2, thing)


class Making(unittest.TestCase, Same):
    def check(self, size, machine, shares):
        self.same(machine, slow_machine(size, shares))
        self.same(lets_machine(size, machine), len(shares))

    def test_waits(self):
        for size in (1, 2, 5, 8):
            for many in (0, 1, 3, 6):
                machine = waits_machine(size, many)
                self.check(size, machine, [[Fraction(int(t < many))] * size for t in range(many + 1)])
                self.same(waits_machine(size=size, many=many), machine)
        self.same(waits_machine(2, 1), ONCE)
        self.same(waits_machine(1, 0), ((1,), (((0,),),), 1))

    def test_coins(self):
        dice = random.Random(94)
        for _ in range(60):
            size = dice.randint(1, 8)
            coins = tuple(dice.choice(((0, 1), (1, 1), (1, 2), (2, 3), (5, 6), (1, 10 ** 12))) for _ in range(size))
            machine = coin_machine(coins)
            self.check(size, machine, [[1 - Fraction(*coin) for coin in coins]])
            self.same(coin_machine(coins=coins), machine)
        self.same(coin_machine(((1, 3), (1, 1))), ((3,), (((2,), (0,)),), 3))
        self.same(coin_machine(((1, 2), (1, 3))), ((6,), (((3,), (4,)),), 6))
        self.same(coin_machine(((0, 1),)), ((1,), (((1,),),), 1))

    def test_brinks(self):
        dice = random.Random(95)
        for _ in range(80):
            size = dice.randint(1, 8)
            brinks = random_brinks(dice, size)
            moments = [brink[0] for brink in brinks if brink is not None]
            many = max(moments) + 2 if moments else 1
            go, stay = [], []
            for t in range(many):
                goes, stays = [], []
                for brink in brinks:
                    early = brink is None or t < brink[0]
                    part = Fraction(0) if early or t > brink[0] else Fraction(*brink[1])
                    goes.append(Fraction(1) if early else part)
                    stays.append(Fraction(0) if early else 1 - part)
                go.append(goes)
                stay.append(stays)
            self.check(size, go_machine(brinks), go)
            self.same(go_machine(brinks=brinks), go_machine(brinks))
            self.check(size, stay_machine(brinks), stay)
            self.same(stay_machine(brinks=brinks), stay_machine(brinks))

    def test_brinks_told(self):
        self.same(go_machine((None, None)), ((1,), (((1,), (1,)),), 1))
        self.same(stay_machine((None, None)), ((1,), (((0,), (0,)),), 1))
        self.same(go_machine(((0, (0, 1)),)), ((1, 0), (((0, 0),), ((0, 0),)), 1))
        self.same(stay_machine(((0, (0, 1)),)), ((1, 0), (((0, 1),), ((0, 1),)), 1))
        self.same(stay_machine(((0, (1, 3)), None)), ((3, 0), (((0, 2), (0, 0)), ((0, 3), (0, 0))), 3))
        self.same(go_machine(((1, (1, 2)), (0, (1, 3)))), (
            (6, 0, 0), (((0, 6, 0), (0, 2, 0)), ((0, 0, 3), (0, 0, 0)), ((0, 0, 0), (0, 0, 0))), 6,
        ))
        great = go_machine(((16, (1, 2)), None))
        self.same(lets_machine(2, great), 18)
        self.same((great[0][0], sum(great[0]), great[2]), (2, 2, 2))
        self.same(lets_machine(1, stay_machine(((15, (0, 1)),))), 17)

    def test_machines_walk_as_what_they_are_made_of(self):
        dice = random.Random(96)
        for web in WEBS:
            size, start = size_of(web), random_load(dice, size_of(web))
            brinks = random_brinks(dice, size)
            coins = tuple(dice.choice(((0, 1), (1, 1), (1, 2), (2, 3))) for _ in range(size))
            self.same(machine_walk(web, start, go_machine(brinks), 7), go_by(web, start, brinks, 7))
            self.same(machine_walk(web, start, stay_machine(brinks), 7), stay_by(web, start, brinks, 7))
            self.same(machine_walk(web, start, coin_machine(coins), 5), coin_course(web, start, coins, 5))
            waits = ((3, (0, 1)),) * size
            self.same(machine_walk(web, start, waits_machine(size, 3), 5), go_by(web, start, waits, 5))
        told = go_brinks(HALVES, LEFT, ((11, 9), 2), 16)
        self.same(machine_walk(HALVES, LEFT, go_machine(told), 14), go_by(HALVES, LEFT, told, 14))
        self.same(machine_walk(TURN, LEFT, ONCE, 2), (((0, 0), 1), LEFT, LEFT))

    def test_refusals(self):
        check_refusals(self, waits_machine, [("size", 2), ("many", 1)], {"many": bad_numbers()})
        wrong = [None, True, 1, "", (), [(1, 1)], (1, 1), ((1, 1), None)] + bad_coins(2)
        wrong = [thing for thing in wrong if thing not in (((1, 1),), ((1, 1),) * 3)]
        check_refusals(self, coin_machine, [("coins", ((1, 2), (1, 1)))], {"coins": wrong})
        wrong = [None, True, 1, "", (), [None], (0, (1, 2)), (None, 1), ((0, (0, 1)), (0, (1, 1)))] + bad_brinks(2)
        wrong = [thing for thing in wrong if thing not in ((None,), (None,) * 3)]
        for function in (go_machine, stay_machine):
            check_refusals(self, function, [("brinks", ((0, (1, 2)), None))], {"brinks": wrong})
