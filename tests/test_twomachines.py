"""Machines made of two: behind, mixed, sooner, later ([69], [70]), with what [72] says of them."""

import random
import unittest
from fractions import Fraction
from math import gcd

from stayorgo.behinds import behind, mixed
from stayorgo.machinechecker import is_machine, lets_machine
from stayorgo.machinecourses import machine_course
from stayorgo.machineends import machine_end
from stayorgo.machinemaking import coin_machine, waits_machine
from stayorgo.machinepairs import is_sure
from stayorgo.twos import later, sooner

from tests.support import (
    FORK, HALVES, TURN, MachineWalk, Same, bad_amounts, bad_machines, chance, check_refusals, load_of_values,
    machine_of_values, machine_values, random_load, random_machine, random_web, size_of, values, WEBS,
)

LEFT = ((1, 0), 1)
ONCE = waits_machine(2, 1)
PARTS = ((0, 1), (1, 1), (1, 2), (1, 3), (5, 7))


def slow_behind(size, one, other):
    """Memory by memory, by fractions."""
    (firsts, goes), (begins, follows) = machine_values(one), machine_values(other)
    ahead = []
    for rows in goes:
        ahead.append([])
        for i, row in enumerate(rows):
            stays = 1 - sum(row)
            begun = [sum(begins[s] * follows[s][i][q] for s in range(len(begins))) for q in range(len(begins))]
            ahead[-1].append(row + [stays * number for number in begun])
    after = [[[Fraction(0)] * len(firsts) + row for row in rows] for rows in follows]
    return machine_of_values(firsts + [Fraction(0)] * len(begins), ahead + after)


def slow_mixed(size, one, other, part):
    (firsts, goes), (begins, follows) = machine_values(one), machine_values(other)
    share = Fraction(*part)
    both = [share * first for first in firsts] + [(1 - share) * first for first in begins]
    ahead = [[row + [Fraction(0)] * len(begins) for row in rows] for rows in goes]
    after = [[[Fraction(0)] * len(firsts) + row for row in rows] for rows in follows]
    return machine_of_values(both, ahead + after)


def slow_sooner(size, one, other):
    (firsts, goes), (begins, follows) = machine_values(one), machine_values(other)
    many, more = len(firsts), len(begins)
    out = [[[Fraction(0)] * (many * more) for _ in range(size)] for _ in range(many * more)]
    for s in range(many):
        for q in range(more):
            for i in range(size):
                for s2 in range(many):
                    for q2 in range(more):
                        out[s * more + q][i][s2 * more + q2] = goes[s][i][s2] * follows[q][i][q2]
    return machine_of_values([firsts[k // more] * begins[k % more] for k in range(many * more)], out)


def slow_later(size, one, other):
    (firsts, goes), (begins, follows) = machine_values(one), machine_values(other)
    many, more = len(firsts), len(begins)
    pairs, whole = many * more, many * more + many + more
    out = [[[Fraction(0)] * whole for _ in range(size)] for _ in range(whole)]
    for i in range(size):
        for s in range(many):
            out[pairs + s][i][pairs:pairs + many] = goes[s][i]
            for q in range(more):
                out[pairs + many + q][i][pairs + many:] = follows[q][i]
                row = out[s * more + q][i]
                for s2 in range(many):
                    row[pairs + s2] = goes[s][i][s2] * (1 - sum(follows[q][i]))
                    for q2 in range(more):
                        row[s2 * more + q2] = goes[s][i][s2] * follows[q][i][q2]
                for q2 in range(more):
                    row[pairs + many + q2] = follows[q][i][q2] * (1 - sum(goes[s][i]))
    begin = [firsts[k // more] * begins[k % more] for k in range(pairs)] + [Fraction(0)] * (many + more)
    return machine_of_values(begin, out)


def choices(machine, memory, place):
    """What the machine may do: pairs of a new memory, None for staying, and its chance."""
    if memory is None:
        return [(None, Fraction(1))]
    row = machine_values(machine)[1][memory][place]
    return [(q, number) for q, number in enumerate(row)] + [(None, 1 - sum(row))]


def joint_course(web, start, one, other, many, manner):
    """The course of both machines at one walk, each with its own memory and dice, None where it would have stayed."""
    firsts, begins = machine_values(one)[0], machine_values(other)[0]
    places = range(size_of(web))
    stands = {}
    for s, first in enumerate(firsts):
        for q, begin in enumerate(begins):
            for i in places:
                stands[s, q, i] = first * begin * values(start)[i]
    gone = [Fraction(0)] * size_of(web)
    course = [gone]
    for _ in range(many):
        gone, moved = list(gone), {}
        for (s, q, i), number in stands.items():
            for s2, share in choices(one, s, i):
                for q2, more in choices(other, q, i):
                    stays = (s2 is None or q2 is None) if manner == "sooner" else (s2 is None and q2 is None)
                    if stays or number * share * more == 0:
                        continue
                    gone[i] += number * share * more
                    for j in places:
                        key = (s2, q2, j)
                        moved[key] = moved.get(key, 0) + number * share * more * chance(web, i, j)
        stands = moved
        course.append(gone)
    return tuple(load_of_values(numbers) for numbers in course)


def behind_course(web, start, one, other, many):
    """The course of what goes by one and then, with what one lets stay, at once by other."""
    places = range(size_of(web))
    (firsts, goes), (begins, follows) = machine_values(one), machine_values(other)
    ahead = [[first * stand for stand in values(start)] for first in firsts]
    after = [[Fraction(0)] * size_of(web) for _ in begins]
    gone = [Fraction(0)] * size_of(web)
    course = [gone]
    for _ in range(many):
        stays = [sum(ahead[s][i] * (1 - sum(goes[s][i])) for s in range(len(firsts))) for i in places]
        after = [[row[i] + begins[q] * stays[i] for i in places] for q, row in enumerate(after)]
        moved = [[sum(ahead[s][i] * goes[s][i][k] for s in range(len(firsts))) for i in places]
                 for k in range(len(firsts))]
        follow = [[sum(after[q][i] * follows[q][i][k] for q in range(len(begins))) for i in places]
                  for k in range(len(begins))]
        gone = [gone[i] + sum(row[i] for row in moved + follow) for i in places]
        course.append(gone)
        ahead = [[sum(row[i] * chance(web, i, j) for i in places) for j in places] for row in moved]
        after = [[sum(row[i] * chance(web, i, j) for i in places) for j in places] for row in follow]
    return tuple(load_of_values(numbers) for numbers in course)


def two_cases(seed, many):
    dice = random.Random(seed)
    webs = [web for web in WEBS if size_of(web) <= 4] + [random_web(dice, 3) for _ in range(10)]
    for turn in range(many):
        web = webs[turn % len(webs)]
        size = size_of(web)
        one = random_machine(dice, size, dice.choice((1, 1, 2, 3)))
        other = one if turn % 6 == 0 else random_machine(dice, size, dice.choice((1, 1, 2)))
        yield dice, web, random_load(dice, size, 3, 0.5), one, other


def added_all(*lists):
    return [sum(numbers) for numbers in zip(*lists)]


class Numbers(unittest.TestCase, Same):
    def check(self, function, slow, memories, size, one, other, *more):
        made = function(size, one, other, *more)
        self.same(made, slow(size, one, other, *more))
        self.same(lets_machine(size, made), memories)
        numbers = list(made[0]) + [number for rows in made[1] for row in rows for number in row] + [made[2]]
        self.assertEqual(gcd(*numbers), 1)
        named = dict(zip(("one", "other", "part"), (one, other) + more))
        self.same(function(size, **named), made)
        self.same(function(size=size, **named), made)

    def test_number_by_number(self):
        for dice, web, _, one, other in two_cases(220, 150):
            size, many, more = size_of(web), len(one[0]), len(other[0])
            for first, then, ones, others in ((one, other, many, more), (other, one, more, many), (one, one, many, many)):
                self.check(behind, slow_behind, ones + others, size, first, then)
                self.check(sooner, slow_sooner, ones * others, size, first, then)
                self.check(later, slow_later, ones * others + ones + others, size, first, then)
                for part in PARTS:
                    self.check(mixed, slow_mixed, ones + others, size, first, then, part)

    def test_told(self):
        wait = waits_machine(1, 1)
        half = coin_machine(((1, 2),))
        self.same(behind(1, wait, wait), (
            (1, 0, 0, 0), (((0, 1, 0, 0),), ((0, 0, 0, 1),), ((0, 0, 0, 1),), ((0, 0, 0, 0),)), 1))
        self.same(later(1, half, half), ((4, 0, 0), (((1, 1, 1),), ((0, 2, 0),), ((0, 0, 2),)), 4))
        self.same(sooner(1, half, half), ((4,), (((1,),),), 4))
        self.same(behind(1, half, half), ((4, 0), (((2, 1),), ((0, 2),)), 4))
        self.same(mixed(1, half, half, (1, 1)), ((2, 0), (((1, 0),), ((0, 1),)), 2))
        self.same(mixed(1, half, half, (0, 1)), ((0, 2), (((1, 0),), ((0, 1),)), 2))
        self.same(mixed(1, half, wait, (1, 2)), ((1, 1, 0), (((1, 0, 0),), ((0, 0, 2),), ((0, 0, 0),)), 2))
        self.same(sooner(1, wait, waits_machine(1, 2))[0], (1, 0, 0, 0, 0, 0))

    def test_lowest_terms(self):
        sure = coin_machine(((0, 1),))
        for made in (behind(1, sure, sure), sooner(1, sure, sure), later(1, sure, sure), mixed(1, sure, sure, (0, 1))):
            self.same(made[2], 1)
        self.same(mixed(1, sure, sure, (2, 3)), ((2, 1), (((3, 0),), ((0, 3),)), 3))
        self.same(behind(1, sure, coin_machine(((1, 2),))), ((2, 0), (((2, 0),), ((0, 1),)), 2))
        self.same(behind(1, coin_machine(((1, 1),)), coin_machine(((1, 6),))), ((6, 0), (((0, 5),), ((0, 5),)), 6))
        self.same(mixed(1, coin_machine(((1, 4),)), coin_machine(((1, 6),)), (1, 3))[2], 12)

    def test_one_behind_something_behind(self):
        for _, web, start, one, other in two_cases(221, 40):
            size = size_of(web)
            third = waits_machine(size, 1)
            left, right = behind(size, behind(size, one, other), third), behind(size, one, behind(size, other, third))
            self.same(machine_course(web, start, left, 4), machine_course(web, start, right, 4))
            self.same(left, right)
            self.same(is_sure(web, start, left), is_sure(web, start, right))

    def test_greatest(self):
        dice = random.Random(222)
        one, other = random_machine(dice, 2, 4), random_machine(dice, 2, 4)
        self.same(lets_machine(2, later(2, one, random_machine(dice, 2, 3))), 19)
        self.same(lets_machine(2, sooner(2, one, other)), 16)
        for machine in (sooner(2, one, other), behind(2, behind(2, one, other), behind(2, other, one))):
            self.same(machine_course(HALVES, LEFT, machine, 16), MachineWalk(HALVES, LEFT, machine, 16).course())
        many = tuple(tuple((15, 14, 15, 15) for _ in range(6)) for _ in range(4))
        great = ((15, 15, 15, 15), many, 60)
        self.same(behind(6, great, great), slow_behind(6, great, great))

    def test_refusals(self):
        good = [("size", 2), ("one", ONCE), ("other", coin_machine(((1, 2), (1, 3))))]
        wrong = bad_machines(2) + [waits_machine(1, 1), waits_machine(3, 1)]
        bad = {"one": wrong, "other": wrong, "part": bad_amounts() + [(2, 1), (3, 2), (10 ** 12 + 1, 10 ** 12)]}
        for function in (behind, sooner, later):
            check_refusals(self, function, good, bad)
        check_refusals(self, mixed, good + [("part", (1, 2))], bad)


class ByCourses(unittest.TestCase, Same):
    def test_behind(self):
        for _, web, start, one, other in two_cases(223, 90):
            made = behind(size_of(web), one, other)
            self.same(machine_course(web, start, made, 4), behind_course(web, start, one, other, 4))

    def test_behind_passes_and_sureness(self):
        told = {True: 0, False: 0}
        for _, web, start, one, other in two_cases(224, 150):
            made = behind(size_of(web), one, other)
            if not is_sure(web, start, one):
                self.same(is_sure(web, start, made), False)
                continue
            end, passes = machine_end(web, start, one)
            sure = is_sure(web, end, other)
            self.same(is_sure(web, start, made), sure)
            told[sure] += 1
            if sure:
                last, more = machine_end(web, end, other)
                both = added_all(values(passes), values(more))
                self.same(machine_end(web, start, made), (last, load_of_values(both)))
        self.assertGreater(min(told.values()), 10)

    def test_sooner_and_later_at_one_walk(self):
        for _, web, start, one, other in two_cases(225, 60):
            size = size_of(web)
            for manner, function in (("sooner", sooner), ("later", later)):
                course = joint_course(web, start, one, other, 3, manner)
                self.same(machine_course(web, start, function(size, one, other), 3), course)
                self.same(machine_course(web, start, function(size, other, one), 3), course)

    def test_sooner_and_later_are_together_both(self):
        told = set()
        for _, web, start, one, other in two_cases(226, 150):
            size = size_of(web)
            least, most = sooner(size, one, other), later(size, one, other)
            walks = [MachineWalk(web, start, machine, 5) for machine in (one, other, least, most)]
            for first, then, less, more in zip(*[walk.goes for walk in walks]):
                self.assertEqual(added_all(first, then), added_all(less, more))
                for low, high, one_goes, other_goes in zip(less, more, first, then):
                    self.assertTrue(low <= min(one_goes, other_goes) and max(one_goes, other_goes) <= high)
            for first, then, less, more in zip(*[walk.kept for walk in walks]):
                self.assertEqual(added_all(first, then), added_all(less, more))
            sures = is_sure(web, start, one), is_sure(web, start, other)
            told.add(sures)
            self.same(is_sure(web, start, most), all(sures))
            if any(sures):
                self.same(is_sure(web, start, least), True)
            if all(sures):
                ends = [machine_end(web, start, machine) for machine in (one, other, least, most)]
                for k in range(2):
                    first, then, less, more = [values(pair[k]) for pair in ends]
                    self.assertEqual(added_all(first, then), added_all(less, more))
        self.assertEqual(len(told), 4)

    def test_mixed(self):
        told = set()
        for dice, web, start, one, other in two_cases(227, 150):
            part = dice.choice(PARTS)
            share = Fraction(*part)
            made = mixed(size_of(web), one, other, part)
            goes = [
                [share * first + (1 - share) * then for first, then in zip(some, more)]
                for some, more in zip(MachineWalk(web, start, one, 4).gone, MachineWalk(web, start, other, 4).gone)
            ]
            self.same(machine_course(web, start, made, 4), tuple(load_of_values(row) for row in goes))
            needed = [machine for machine, weight in ((one, share), (other, 1 - share)) if weight]
            sure = all(is_sure(web, start, machine) for machine in needed)
            self.same(is_sure(web, start, made), sure)
            told.add((part, sure))
            if is_sure(web, start, one) and is_sure(web, start, other):
                for k in range(2):
                    first, then = [values(machine_end(web, start, machine)[k]) for machine in (one, other)]
                    both = [share * low + (1 - share) * high for low, high in zip(first, then)]
                    self.same(machine_end(web, start, made)[k], load_of_values(both))
        self.assertGreaterEqual(len(told), 2 * len(PARTS) - 1)

    def test_one_machine_twice(self):
        for _, web, start, one, _ in two_cases(228, 30):
            self.same(is_machine(size_of(web), later(size_of(web), one, one)), True)
            again = mixed(size_of(web), one, one, (1, 3))
            self.same(machine_course(web, start, again, 4), machine_course(web, start, one, 4))
        twice = behind(2, ONCE, ONCE)
        self.same(machine_end(TURN, LEFT, twice), (LEFT, ((1, 1), 1)))
        self.same(machine_course(TURN, LEFT, sooner(2, ONCE, twice), 3), machine_course(TURN, LEFT, ONCE, 3))
        self.same(machine_course(TURN, LEFT, later(2, ONCE, twice), 3), machine_course(TURN, LEFT, twice, 3))
        self.same(is_sure(FORK, ((1, 0, 0), 1), coin_machine(((0, 1),) * 3)), False)
