"""Stage 1: kinds, quotients, loads, compares."""

import random
import unittest
from fractions import Fraction

from stayorgo.compares import first_above, greater_of, is_within, lesser_of
from stayorgo.kinds import is_integer, is_load, is_number, is_quotient, is_set, is_spread
from stayorgo.loads import added, entry_of, load_of, no_load, product_of, scaled, taken, unit_load, weight_of
from stayorgo.quotients import is_less, minus, over, plus, quotient_of, times

from tests.support import (
    Same, bad_amounts, bad_loads, bad_numbers, bad_places, bad_quotients, bad_sets, check_refusals, load_of_values,
    make_quotient, random_load, value, values,
)

GREAT = 10 ** 59


def nested(depth):
    thing = ()
    for _ in range(depth):
        thing = (thing,)
    return thing


class Kinds(unittest.TestCase, Same):
    def test_integers(self):
        for thing in (0, 1, -1, GREAT, -GREAT):
            self.same(is_integer(thing), True)
        for thing in (True, False, None, "1", "", (), (1,), [1], nested(30)):
            self.same(is_integer(thing), False)

    def test_numbers(self):
        for thing in (0, 1, GREAT):
            self.same(is_number(thing), True)
        for thing in (-1, -GREAT, *bad_numbers()):
            self.same(is_number(thing), False)

    def test_quotients(self):
        for thing in ((0, 1), (1, 1), (-1, 2), (3, 2), (GREAT, 1), (1, GREAT), (-GREAT, GREAT + 1)):
            self.same(is_quotient(thing), True, thing)
        for thing in (*bad_quotients(), nested(30), (0, 3), (-2, 4), (1,) * 5000, [0, 1], ([0], 1)):
            self.same(is_quotient(thing), False, thing)

    def test_loads(self):
        for size, thing in (
            (1, ((0,), 1)), (1, ((7,), 3)), (3, ((0, 0, 0), 1)), (3, ((2, 0, 4), 3)), (2, ((6, 3), 2)),
            (2, ((2, 2), 1)), (60, ((0,) * 59 + (1,), 10 ** 12)), (2, ((GREAT, 0), GREAT + 1)),
        ):
            self.same(is_load(size, thing), True, thing)
            self.same(is_load(size=size, thing=thing), True, thing)
            self.same(is_load(size + 1, thing), False, thing)
        for size in (1, 2, 3, 60):
            for thing in (*bad_loads(size), nested(30)):
                self.same(is_load(size, thing), False, thing)

    def test_loads_bent_at_one_place(self):
        for at in range(3):
            for wrong in (True, False, None, "1", -1, (1,), [1]):
                tops = [1, 1, 1]
                tops[at] = wrong
                self.same(is_load(3, (tuple(tops), 2)), False)
        self.same(is_load(3, ((1, 1, 1), 2)), True)
        self.same(is_load(3, ([1, 1, 1], 2)), False)
        self.same(is_load(3, [(1, 1, 1), 2]), False)
        self.same(is_load(3, ((2, 4, 6), 2)), False)
        self.same(is_load(3, ((2, 4, 6), 4)), False)
        self.same(is_load(3, ((2, 4, 5), 4)), True)

    def test_spreads(self):
        for size, thing in ((1, ((1,), 1)), (2, ((1, 1), 2)), (3, ((1, 0, 2), 3)), (60, ((1,) * 60, 60))):
            self.same(is_spread(size, thing), True, thing)
        for thing in (((0, 0), 1), ((1, 1), 1), ((1, 1), 3), ((2, 1), 2), ((2, 2), 4), ((1, 0), True), ((True, 0), 1)):
            self.same(is_spread(2, thing), False, thing)
        for thing in bad_loads(2):
            self.same(is_spread(2, thing), False, thing)

    def test_sets(self):
        for thing in ((), (0,), (2,), (0, 2), (0, 1, 2)):
            self.same(is_set(3, thing), True, thing)
        for thing in (*bad_sets(3), (1, 0), (2, 2), (0, True), (0, 1, 1), (0, 3), nested(30), (0, "1"), [0, 1]):
            self.same(is_set(3, thing), False, thing)
        self.same(is_set(60, tuple(range(60))), True)
        self.same(is_set(60, tuple(range(61))), False)
        self.same(is_set(1, ()), True)


class Quotients(unittest.TestCase, Same):
    def setUp(self):
        tops = (0, 1, -1, 2, -3, 7, 10 ** 15, -10 ** 15 + 1)
        self.all = [Fraction(top, bottom) for top in tops for bottom in (1, 2, 3, 7, 10 ** 12)]

    def test_quotient_of(self):
        for top in (0, 1, -1, 6, -12, 10 ** 15, GREAT):
            for bottom in (1, -1, 2, -4, 9, -10 ** 12, GREAT):
                self.same(quotient_of(top, bottom), make_quotient(Fraction(top, bottom)))

    def test_sums_and_the_like(self):
        for one in self.all:
            for other in self.all:
                first, second = make_quotient(one), make_quotient(other)
                self.same(plus(first, second), make_quotient(one + other))
                self.same(minus(first, second), make_quotient(one - other))
                self.same(times(first, second), make_quotient(one * other))
                self.same(is_less(first, second), one < other)
                if other != 0:
                    self.same(over(first, second), make_quotient(one / other))

    def test_by_name(self):
        self.same(quotient_of(top=6, bottom=-4), (-3, 2))
        self.same(minus(other=(1, 2), one=(1, 3)), (-1, 6))
        self.same(over(other=(-1, 2), one=(1, 3)), (-2, 3))

    def test_refusals(self):
        wrong = [None, True, False, "1", "", (), (1,), [1]]
        check_refusals(self, quotient_of, [("top", 3), ("bottom", -6)], {"top": wrong, "bottom": [0] + wrong})
        pair = [("one", (1, 2)), ("other", (-1, 3))]
        bad = {"one": bad_quotients(), "other": bad_quotients()}
        for function in (plus, minus, times, is_less):
            check_refusals(self, function, pair, bad)
        check_refusals(self, over, pair, {"one": bad_quotients(), "other": [(0, 1)] + bad_quotients()})


class Loads(unittest.TestCase, Same):
    def loads(self, many=60):
        dice = random.Random(15)
        for turn in range(many):
            size = dice.choice((1, 2, 3, 5, 8, 60))
            yield random_load(dice, size, 10 ** (turn % 15)), random_load(dice, size, 12)

    def test_load_of(self):
        for one, _ in self.loads():
            quotients = tuple(make_quotient(entry) for entry in values(one))
            self.same(load_of(quotients), one)
            self.same(load_of(quotients=quotients), one)
            self.assertTrue(is_load(len(quotients), load_of(quotients)))
        self.same(load_of(((0, 1),)), ((0,), 1))
        self.same(load_of(((1, 2), (1, 3), (1, 6))), ((3, 2, 1), 6))
        self.same(load_of(((4, 3), (2, 3))), ((4, 2), 3))

    def test_entries_and_weight(self):
        for one, _ in self.loads():
            for place, entry in enumerate(values(one)):
                self.same(entry_of(one, place), make_quotient(entry))
            self.same(weight_of(one), make_quotient(sum(values(one))))
        self.same(entry_of(load=((2, 1), 2), place=0), (1, 1))

    def test_no_load_and_unit_load(self):
        for size in (1, 2, 8, 60):
            self.same(no_load(size), ((0,) * size, 1))
            for place in range(size):
                self.same(unit_load(size, place), (tuple(int(i == place) for i in range(size)), 1))

    def test_sums_and_products(self):
        for one, other in self.loads():
            first, second = values(one), values(other)
            total = [x + y for x, y in zip(first, second)]
            self.same(added(one, other), load_of_values(total))
            self.same(added(load=one, other=other), load_of_values(total))
            self.same(taken(added(one, other), other), one)
            self.same(product_of(one, other), make_quotient(sum(x * y for x, y in zip(first, second))))
            for factor in ((0, 1), (1, 1), (3, 2), (2, 9), (10 ** 12, 7)):
                self.same(scaled(one, factor), load_of_values([x * value(factor) for x in first]))

    def test_at_the_bounds(self):
        load = ((3, 0, 2), 6)
        self.same(taken(load, load), no_load(3))
        self.same(taken(load, no_load(3)), load)
        self.same(scaled(load, (0, 1)), no_load(3))
        self.same(entry_of(load, 2), (1, 3))
        self.same(unit_load(3, 2), ((0, 0, 1), 1))

    def test_refusals(self):
        load = ((3, 0, 2), 6)
        wrong = [(), [(1, 2)], None, True, "1/2", ((1, 2), None), ((-1, 2),), ((1, 2), (-1, 3)), ((2, 4),), (1, 2)]
        check_refusals(self, load_of, [("quotients", ((1, 2), (0, 1)))], {"quotients": wrong})
        for wrong in bad_amounts():
            check_refusals(self, load_of, [("quotients", ((1, 2),))], {"quotients": [((0, 1), wrong)]})
        check_refusals(self, entry_of, [("load", load), ("place", 2)], {"place": bad_places(3)})
        check_refusals(self, unit_load, [("size", 3), ("place", 2)], {"place": bad_places(3)})
        pair = [("load", load), ("other", ((1, 0, 1), 6))]
        for function in (added, product_of):
            check_refusals(self, function, pair, {"other": bad_loads(3)})
        above = [((0, 1, 0), 10 ** 12), ((4, 0, 2), 6), ((1, 0, 1), 2), ((1, 1, 1), 1)]
        check_refusals(self, taken, pair, {"other": bad_loads(3) + above})
        check_refusals(self, scaled, [("load", load), ("factor", (0, 1))], {"factor": bad_amounts()})


class Compares(unittest.TestCase, Same):
    def test_compares(self):
        dice = random.Random(16)
        for _ in range(200):
            size = dice.choice((1, 2, 3, 8, 60))
            one, other = random_load(dice, size), random_load(dice, size)
            if dice.random() < 0.3:
                other = added(one, random_load(dice, size, 1, 0.9))
            first, second = values(one), values(other)
            above = [place for place in range(size) if first[place] > second[place]]
            self.same(is_within(one, other), not above)
            self.same(first_above(one, other), above[0] if above else None)
            self.same(lesser_of(one, other), load_of_values([min(pair) for pair in zip(first, second)]))
            self.same(greater_of(one, other), load_of_values([max(pair) for pair in zip(first, second)]))

    def test_equal_loads_and_great_bottoms(self):
        load = ((1, 2), 3)
        self.same(is_within(load, load), True)
        self.same(first_above(load, load), None)
        self.same((lesser_of(load, load), greater_of(load, load)), (load, load))
        near = ((333333333333, 666666666667), 10 ** 12)
        self.same(first_above(load, near), 0)
        self.same(first_above(near, load), 1)
        self.same(greater_of(load, near), load_of_values([Fraction(1, 3), Fraction(666666666667, 10 ** 12)]))
        self.same(lesser_of(((1, 1), 2), ((1, 1), 1)), ((1, 1), 2))

    def test_refusals(self):
        pair = [("load", ((3, 0, 2), 6)), ("other", ((1, 0, 1), 6))]
        for function in (is_within, lesser_of, greater_of, first_above):
            check_refusals(self, function, pair, {"other": bad_loads(3)})
