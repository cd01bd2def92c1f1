"""Stage 7 and wastes of stage 8: allowances, the most passes, spares, the checker, wastes."""

import random
import unittest
from fractions import Fraction
from itertools import product

from stayorgo.compares import is_within
from stayorgo.loads import added, no_load, scaled, taken, unit_load, weight_of
from stayorgo.mostchecker import lets_most
from stayorgo.mosts import come_places, last_end, most_of
from stayorgo.spares import more_allowance, more_start, spare_of
from stayorgo.stepping import shares_of
from stayorgo.tables import can_stay, table_of
from stayorgo.wastes import trimmed, waste_of, wasted

from tests.support import (
    ALONE, BOARD, CIRCLE, FORK, HALVES, LADDER, ONE, THREE_LOTS, TURN, TWO_LOTS, WEBS, Same, bad_amounts, bad_loads,
    bad_sets, check_refusals, comes_values, fields_of, go_first, load_of_values, make_quotient, raised, random_load,
    random_web, size_of, slow_end, slow_fleeting, slow_flow, slow_lots, value, values,
)

LEFT = ((1, 0), 1)


def cases(seed, many=100, largest=4):
    """Triples (web, start, allowance)."""
    dice = random.Random(seed)
    webs = [web for web in WEBS if size_of(web) <= largest] + [random_web(dice, largest) for _ in range(20)]
    for turn in range(many):
        web = webs[turn % len(webs)]
        allowance = random_load(dice, size_of(web), dice.choice((1, 4, 30)), dice.choice((0.1, 0.5)))
        yield web, random_load(dice, size_of(web), 6, 0.6), allowance


def is_most_fixed(web, start, allowance, passes):
    comes = comes_values(web, start, passes)
    return all(number == min(pair) for number, pair in zip(passes, zip(allowance, comes)))


def slow_most(web, start, allowance):
    """The least load that is the lesser one of both: each place has 0, all of its allowance, or lets all go."""
    first, limit = values(start), values(allowance)
    found = []
    for kinds in product("zero full free".split(), repeat=size_of(web)):
        fixed = [limit[i] if kind == "full" else Fraction(0) for i, kind in enumerate(kinds)]
        base = comes_values(web, first, fixed)
        flow = slow_flow(web, [i for i, kind in enumerate(kinds) if kind == "free"], base)
        if flow is not None:
            passes = [one + other for one, other in zip(fixed, flow)]
            if min(passes) >= 0 and is_most_fixed(web, first, limit, passes):
                found.append(passes)
    least = [min(numbers) for numbers in zip(*found)]
    assert least in found
    return load_of_values(least)


def slow_places(web, start, allowance):
    held = {i for i, top in enumerate(start[0]) if top > 0}
    for _ in range(size_of(web)):
        held = held | {j for i in held if allowance[0][i] > 0 for j in range(size_of(web)) if web[0][i][j] > 0}
    return tuple(sorted(held))


class Mosts(unittest.TestCase, Same):
    def test_most_passes(self):
        for web, start, allowance in cases(33):
            most = slow_most(web, start, allowance)
            self.same(most_of(web, start, allowance), most)
            self.same(most_of(web=web, start=start, allowance=allowance), most)
            self.same(last_end(web, start, allowance), slow_end(web, start, most))
            self.same(last_end(web=web, start=start, allowance=allowance), slow_end(web, start, most))
            self.same(weight_of(last_end(web, start, allowance)), weight_of(start))
            self.assertTrue(is_within(most, allowance))

    def test_greater_webs(self):
        for web, start, allowance in cases(34, 60, 5):
            most = most_of(web, start, allowance)
            self.assertTrue(is_most_fixed(web, values(start), values(allowance), values(most)))
            for gone in go_first(web, start, allowance, 20):
                self.assertTrue(all(one <= other for one, other in zip(gone, values(most))))

    def test_go_first_comes_near(self):
        given = ((HALVES, LEFT, ((3, 1), 2)), (TURN, LEFT, ((5, 4), 1)), (FORK, ONE, ((4, 1, 12), 4)))
        for web, start, allowance in given:
            gone = go_first(web, start, allowance, 60)[-1]
            most = values(most_of(web, start, allowance))
            self.assertTrue(all(other - one < Fraction(1, 10 ** 6) for one, other in zip(gone, most)))

    def test_come_places(self):
        outside = 0
        for web, start, allowance in cases(35, 100, 5):
            places = slow_places(web, start, allowance)
            self.same(come_places(web, start, allowance), places)
            self.same(come_places(web=web, start=start, allowance=allowance), places)
            for place, top in enumerate(most_of(web, start, allowance)[0]):
                self.assertEqual(top > 0, place in places and allowance[0][place] > 0)
                outside += place not in places and allowance[0][place] > 0
        self.assertGreater(outside, 10)
        self.same(come_places(FORK, no_load(3), ((1, 1, 1), 1)), ())
        self.same(come_places(FORK, ONE, ((1, 0, 0), 1)), (0, 1, 2))

    def test_allowances_at_the_bounds(self):
        for web in WEBS:
            size = size_of(web)
            nothing, great = no_load(size), ((10 ** 9,) * size, 1)
            start = unit_load(size, 0)
            self.same(most_of(web, start, nothing), nothing)
            self.same(last_end(web, start, nothing), start)
            self.same(most_of(web, nothing, great), nothing)
            self.same(last_end(web, nothing, great), nothing)
            most = values(most_of(web, start, great))
            for lot in slow_lots(web):
                if set(lot) & set(come_places(web, start, great)):
                    self.assertEqual(max(most[place] for place in lot), 10 ** 9)
                else:
                    self.assertEqual([most[place] for place in lot], [0] * len(lot))

    def test_lots_to_which_nothing_comes(self):
        allowance = ((1, 1, 1, 1, 1), 1)
        self.same(most_of(THREE_LOTS, unit_load(5, 0), allowance), ((1, 1, 1, 1, 0), 1))
        self.same(last_end(THREE_LOTS, unit_load(5, 0), allowance), ((2, 1, 0, 1, 0), 4))
        self.same(most_of(TURN, no_load(2), ((1, 1), 1)), no_load(2))
        self.same(most_of(TWO_LOTS, ((0, 0, 0, 1, 0), 2), allowance), ((0, 0, 0, 1, 1), 1))
        self.same(come_places(TWO_LOTS, ((0, 0, 0, 1, 0), 2), allowance), (3, 4))

    def test_refusals(self):
        good = [("web", FORK), ("start", ONE), ("allowance", ((4, 1, 12), 4))]
        bad = {"start": bad_loads(3), "allowance": bad_loads(3)}
        for function in (come_places, most_of, last_end, spare_of):
            check_refusals(self, function, good, bad)
        check_refusals(self, lets_most, good + [("thing", ((4, 1, 12), 4))], bad)
        for function in (more_allowance, more_start):
            check_refusals(self, function, good + [("extra", no_load(3))], {**bad, "extra": bad_loads(3)})


class Spares(unittest.TestCase, Same):
    def test_spare(self):
        for web, start, allowance in cases(36, 60, 5):
            spare = spare_of(web, start, allowance)
            self.same(spare, taken(allowance, most_of(web, start, allowance)))
            self.same(spare_of(web=web, start=start, allowance=allowance), spare)
        self.same(spare_of(TURN, no_load(2), ((1, 2), 3)), ((1, 2), 3))
        self.same(spare_of(FORK, ONE, ((4, 1, 12), 4)), no_load(3))

    def test_more_allowance_and_more_start(self):
        dice = random.Random(37)
        for web, start, allowance in cases(37, 80, 5):
            extra = random_load(dice, size_of(web), 3)
            wider, fuller = added(allowance, extra), added(start, extra)
            told = more_allowance(web, start, allowance, extra)
            self.same(told, (most_of(web, start, wider), last_end(web, start, wider)))
            self.same(more_allowance(web=web, start=start, allowance=allowance, extra=extra), told)
            # By (G4): what passes ahead, and what passes then from the last end by the allowance that is left.
            most, last = most_of(web, start, allowance), last_end(web, start, allowance)
            spare = spare_of(web, start, allowance)
            self.same(told[0], added(most, most_of(web, last, added(spare, extra))))
            told = more_start(web, start, allowance, extra)
            self.same(told, (most_of(web, fuller, allowance), last_end(web, fuller, allowance)))
            self.same(more_start(web=web, start=start, allowance=allowance, extra=extra), told)
            self.same(told[0], added(most, most_of(web, added(last, extra), spare)))


class Checker(unittest.TestCase, Same):
    def test_the_most_passes_alone_are_let(self):
        dice = random.Random(38)
        for web, start, allowance in cases(38):
            most = most_of(web, start, allowance)
            self.same(lets_most(web, start, allowance, most), last_end(web, start, allowance))
            self.same(lets_most(web=web, start=start, allowance=allowance, thing=most), last_end(web, start, allowance))
            things = [random_load(dice, size_of(web), 3) for _ in range(4)]
            for thing in [allowance, start, no_load(size_of(web))] + things:
                if thing != most:
                    self.assertEqual(type(raised(lets_most, web, start, allowance, thing)).__name__, "InvalidPaper")
            for lot in slow_lots(web):
                thing = added(most, shares_of(web, lot))
                self.assertEqual(type(raised(lets_most, web, start, allowance, thing)).__name__, "InvalidPaper")

    def test_load(self):
        for thing in bad_loads(2):
            self.refuses_paper("load", -1, lets_most, TURN, LEFT, ((1, 1), 1), thing)

    def test_lesser(self):
        for start, allowance, thing, at in (
            (LEFT, ((1, 1), 1), ((0, 0), 1), 0), (LEFT, ((1, 1), 1), ((2, 1), 1), 0),
            (LEFT, ((1, 1), 1), ((1, 2), 1), 1), (LEFT, ((1, 1), 1), ((1, 0), 1), 1),
            (LEFT, ((1, 1), 1), ((2, 2), 1), 0), (LEFT, ((0, 1), 1), ((0, 1), 1), 1),
            (no_load(2), ((1, 1), 1), ((1, 0), 1), 0), (no_load(2), ((1, 1), 1), ((0, 1), 1), 0),
        ):
            self.refuses_paper("lesser", at, lets_most, TURN, start, allowance, thing)
        # At place 0 of the lot the thing is not lesser, and nothing comes to the lot: the first check is told.
        self.refuses_paper("lesser", 0, lets_most, TURN, no_load(2), ((1, 2), 1), ((2, 2), 1))

    def test_lot(self):
        ones = ((1, 1, 1, 1, 1), 1)
        self.refuses_paper("lot", 0, lets_most, TURN, no_load(2), ((1, 1), 1), ((1, 1), 2))
        self.refuses_paper("lot", 2, lets_most, THREE_LOTS, unit_load(5, 0), ones, ones)
        self.refuses_paper("lot", 1, lets_most, THREE_LOTS, no_load(5), ones, ((0, 0, 2, 3, 0), 3))
        self.refuses_paper("lot", 1, lets_most, THREE_LOTS, no_load(5), ones, ((0, 0, 2, 3, 3), 3))
        self.refuses_paper("lot", 0, lets_most, THREE_LOTS, no_load(5), ones, ((0, 1, 0, 0, 1), 1))
        # A start at a place of the lot, or an arrow from a passed fleeting place, is enough.
        self.same(lets_most(THREE_LOTS, unit_load(5, 4), ones, ((0, 0, 0, 0, 1), 1)), unit_load(5, 4))
        self.same(lets_most(TWO_LOTS, unit_load(5, 3), ((0, 0, 0, 0, 9), 1), no_load(5)), unit_load(5, 3))
        self.same(lets_most(FORK, ((0, 1, 0), 1), ((0, 1, 5), 1), ((0, 1, 5), 1)), ((0, 0, 1), 1))
        self.refuses_paper("lot", 0, lets_most, FORK, ((0, 1, 0), 1), ((0, 0, 5), 1), ((0, 0, 5), 1))
        # A fleeting place without allowance lets nothing go into the lot.
        self.refuses_paper("lot", 0, lets_most, FORK, ONE, ((0, 1, 1), 1), ((0, 0, 1), 1))

    def test_parameters_come_first(self):
        self.same(fields_of(raised(lets_most, TURN, LEFT, None, None)), ("NotUsable", ("allowance", -1)))


class Wastes(unittest.TestCase, Same):
    def test_trimmed_and_waste(self):
        dice = random.Random(39)
        webs = list(WEBS) + [random_web(dice) for _ in range(20)]
        some = 0
        for turn in range(120):
            web = webs[turn % len(webs)]
            passes = random_load(dice, size_of(web), 6, 0.2)
            left, waste = trimmed(web, passes), waste_of(web, passes)
            numbers = values(passes)
            lots = slow_lots(web)
            self.assertEqual(len(waste), len(lots))
            for lot, part in zip(lots, waste):
                shares = values(shares_of(web, lot))
                self.same(part, make_quotient(min(numbers[i] / shares[i] for i in lot)))
                self.assertEqual(min(values(left)[place] for place in lot), 0)
                some += part[0] > 0
                for place in lot:
                    self.assertEqual(values(left)[place], numbers[place] - value(part) * shares[place])
            for place in slow_fleeting(web):
                self.assertEqual(values(left)[place], numbers[place])
            back = left
            for lot, part in zip(lots, waste):
                back = wasted(web, back, lot, part)
            self.same(back, passes)
            self.same(trimmed(web, left), left)
            self.same(waste_of(web, left), ((0, 1),) * len(lots))
        self.assertGreater(some, 40)

    def test_wasted(self):
        dice = random.Random(40)
        for web in WEBS:
            for lot in slow_lots(web):
                passes = random_load(dice, size_of(web))
                for factor in ((0, 1), (1, 1), (7, 3)):
                    told = wasted(web, passes, lot, factor)
                    self.same(told, added(passes, scaled(shares_of(web, lot), factor)))
                    self.same(trimmed(web, told), trimmed(web, passes))

    def test_told_and_by_name(self):
        self.same(trimmed(web=TWO_LOTS, passes=((3, 0, 4, 1, 5), 2)), ((3, 0, 0, 0, 4), 2))
        self.same(waste_of(web=TWO_LOTS, passes=((3, 0, 4, 1, 5), 2)), ((2, 1), (1, 1)))
        self.same(wasted(web=CIRCLE, passes=no_load(3), closed=(0, 1, 2), factor=(5, 2)), ((1, 2, 2), 2))
        self.same(trimmed(BOARD, no_load(4)), no_load(4))
        self.same(waste_of(ALONE, ((3,), 2)), ((3, 2),))
        self.same(trimmed(HALVES, ((2, 1), 1)), ((1, 0), 1))

    def test_passes_of_the_last_end_are_the_most_passes_trimmed(self):
        for web, start, allowance in cases(41, 80, 5):
            most, end = most_of(web, start, allowance), last_end(web, start, allowance)
            self.same(can_stay(web, start, end), True)
            self.same(table_of(web, start, end), trimmed(web, most))

    def test_refusals(self):
        passes = ((0, 1, 2, 3, 4), 1)
        for function in (trimmed, waste_of):
            check_refusals(self, function, [("web", TWO_LOTS), ("passes", passes)], {"passes": bad_loads(5)})
        good = [("web", TWO_LOTS), ("passes", passes), ("closed", (3, 4)), ("factor", (0, 1))]
        wrong = bad_sets(5) + [(), (0,), (3,), (2, 3, 4), (4, 3), [2]]
        check_refusals(self, wasted, good, {"passes": bad_loads(5), "closed": wrong, "factor": bad_amounts()})
        self.same(fields_of(raised(wasted, LADDER, no_load(5), (4,), (-1, 2))), ("NotUsable", ("factor", -1)))
