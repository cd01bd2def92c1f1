"""Ends, wastes and prices of machines ([67], [68], and the price of [71])."""

import random
import unittest
from fractions import Fraction

from stayorgo.coins import coin_end
from stayorgo.brinkends import go_end, stay_end
from stayorgo.loads import no_load
from stayorgo.machineends import machine_end
from stayorgo.machinemaking import coin_machine, go_machine, stay_machine, waits_machine
from stayorgo.machineprices import machine_price
from stayorgo.machinewastes import better_table, machine_waste
from stayorgo.passings import are_passes, left_by
from stayorgo.prices import coin_price
from stayorgo.wastes import waste_of

from tests.support import (
    BOARD, FORK, HALVES, ONE, TURN, TWO_LOTS, WEBS, MachineWalk, Same, bad_loads, bad_machines, bad_prices,
    check_refusals, fields_of, is_table, load_of_values, machine_cases, make_quotient, product_values, raised,
    random_load, random_machine, size_of, slow_lots, slow_machine_end, slow_stuck, sure_machines, value, values,
)
from tests.test_coins import random_prices
from tests.test_courses import random_brinks

LEFT = ((1, 0), 1)
ONCE = waits_machine(2, 1)
NEVER = coin_machine(((0, 1), (0, 1)))


def ends_of(web, start, machine):
    """The pair (end, passes) by the second opinion, as loads."""
    return tuple(load_of_values(numbers) for numbers in slow_machine_end(web, start, machine))


class Ends(unittest.TestCase, Same):
    def test_put_into_their_equations(self):
        told = 0
        for dice, web, start, machine in sure_machines(210, 200):
            end, passes = machine_end(web, start, machine)
            self.same((end, passes), ends_of(web, start, machine))
            self.same(machine_end(web=web, start=start, machine=machine), (end, passes))
            self.same(left_by(web, start, passes), end)
            self.same(are_passes(web, start, passes), True)
            told += any(passes[0])
        self.assertGreater(told, 40)

    def test_what_the_walk_comes_to(self):
        for _, web, start, machine in sure_machines(211, 60):
            end, passes = (values(load) for load in machine_end(web, start, machine))
            last = None
            for many in (4, 12, 24):
                walk = MachineWalk(web, start, machine, many)
                ahead = [one - gone for one, gone in zip(passes, walk.gone[-1])]
                kept = [one - sum(row[i] for row in walk.kept) for i, one in enumerate(end)]
                self.assertTrue(all(one >= 0 for one in ahead + kept))
                self.assertTrue(last is None or sum(ahead) < last or last == 0)
                last = sum(ahead)
            self.assertEqual(sum(end), sum(values(start)))

    def test_endless_with_just_the_stuck_pairs(self):
        told = 0
        for _, web, start, machine in machine_cases(212, 400):
            stuck = slow_stuck(web, start, machine)
            for function in (machine_end, machine_waste, better_table):
                refusal = raised(function, web, start, machine)
                self.same(fields_of(refusal) if refusal else None, ("Endless", (stuck,)) if stuck else None)
            told += stuck != ()
        self.assertGreater(told, 40)
        self.same(fields_of(raised(machine_end, TURN, LEFT, NEVER)), ("Endless", (((0, 0), (0, 1)),)))
        self.same(fields_of(raised(machine_price, TURN, LEFT, NEVER, (LEFT,))), ("Endless", (((0, 0), (0, 1)),)))

    def test_machines_end_as_what_they_are_made_of(self):
        dice = random.Random(213)
        endless = {True: 0, False: 0}
        for web in WEBS * 12:
            size, start = size_of(web), random_load(dice, size_of(web), 4, 0.6)
            brinks = random_brinks(dice, size)
            coins = tuple(dice.choice(((0, 1), (1, 1), (1, 2), (2, 3))) for _ in range(size))
            for function, other, machine in (
                (go_end, brinks, go_machine(brinks)), (stay_end, brinks, stay_machine(brinks)),
                (coin_end, coins, coin_machine(coins)),
            ):
                refusal = raised(function, web, start, other)
                endless[refusal is not None] += 1
                if refusal is None:
                    self.same(machine_end(web, start, machine), function(web, start, other))
                else:
                    self.same(fields_of(refusal)[0], "Endless")
                    stuck = slow_stuck(web, start, machine)
                    self.same(fields_of(raised(machine_end, web, start, machine)), ("Endless", (stuck,)))
        self.assertGreater(min(endless.values()), 25)

    def test_told(self):
        self.same(machine_end(HALVES, LEFT, coin_machine(((1, 3), (1, 1)))), (((1, 1), 2), LEFT))
        self.same(machine_end(TURN, LEFT, ONCE), (((0, 1), 1), LEFT))
        for web in WEBS:
            zero = no_load(size_of(web))
            self.same(machine_end(web, zero, coin_machine(((0, 1),) * size_of(web))), (zero, zero))
            self.same(machine_waste(web, zero, waits_machine(size_of(web), 2)), ((0, 1),) * len(slow_lots(web)))

    def test_greatest(self):
        dice = random.Random(214)
        web = (tuple(tuple(10 for _ in range(6)) for _ in range(6)), 60)
        web = (tuple(tuple(number // 10 for number in row) for row in web[0]), 6)
        for _ in range(3):
            machine = random_machine(dice, 6, 4)
            if not slow_stuck(web, ((1,) * 6, 6), machine):
                self.same(machine_end(web, ((1,) * 6, 6), machine), ends_of(web, ((1,) * 6, 6), machine))
        goes = tuple(tuple(tuple(14 if q == (s + 1) % 4 else 15 for q in range(4)) for _ in range(6)) for s in range(4))
        great = ((15,) * 4, goes, 60)
        self.same(machine_end(web, ((1,) * 6, 6), great), (((1,) * 6, 6), ((59,) * 6, 6)))
        self.same(machine_end(TURN, LEFT, waits_machine(2, 19)), (((0, 1), 1), ((10, 9), 1)))

    def test_refusals(self):
        good = [("web", FORK), ("start", ONE), ("machine", waits_machine(3, 1))]
        bad = {"start": bad_loads(3), "machine": bad_machines(3) + [ONCE]}
        for function in (machine_end, machine_waste, better_table):
            check_refusals(self, function, good, bad)
        # The parameters come before what has no end.
        check_refusals(self, machine_price, good + [("prices", (ONE,))], {**bad, "prices": bad_prices(3)})
        for function, more in ((machine_end, ()), (machine_waste, ()), (better_table, ()), (machine_price, (None,))):
            refusal = raised(function, TURN, None, NEVER, *more)
            self.same(fields_of(refusal), ("NotUsable", ("start", -1)))
        self.same(fields_of(raised(machine_price, TURN, LEFT, NEVER, None)), ("NotUsable", ("prices", -1)))


class Wastes(unittest.TestCase, Same):
    def test_lot_by_lot(self):
        several = 0
        for _, web, start, machine in sure_machines(215, 400, 5):
            passes = machine_end(web, start, machine)[1]
            waste = machine_waste(web, start, machine)
            self.same(waste, waste_of(web, passes))
            self.same(machine_waste(web=web, start=start, machine=machine), waste)
            lots = slow_lots(web)
            self.assertEqual(len(waste), len(lots))
            for lot, one in zip(lots, waste):
                self.assertEqual(any(values(passes)[place] == 0 for place in lot), one == (0, 1))
            several += sum(one != (0, 1) for one in waste) > 1
        self.assertGreater(several, 4)

    def test_better_table_by_the_lines_of_the_definition(self):
        for _, web, start, machine in sure_machines(216, 150, 5):
            end, passes = machine_end(web, start, machine)
            told = better_table(web, start, machine)
            self.same(better_table(web=web, start=start, machine=machine), told)
            self.assertEqual(len(told), 3)
            self.same(told[0], end)
            self.assertTrue(is_table(web, values(start), values(end), values(told[1])))
            self.same(told[2], make_quotient(sum(values(passes)) - sum(values(told[1]))))
            waste = machine_waste(web, start, machine)
            self.assertEqual(value(told[2]), sum(map(value, waste), Fraction(0)))

    def test_told(self):
        self.same(better_table(TURN, LEFT, waits_machine(2, 2)), (LEFT, ((0, 0), 1), (2, 1)))
        self.same(machine_waste(TURN, LEFT, waits_machine(2, 2)), ((2, 1),))
        self.same(machine_waste(TURN, LEFT, waits_machine(2, 3)), ((2, 1),))
        self.same(better_table(TURN, LEFT, waits_machine(2, 3)), (((0, 1), 1), LEFT, (2, 1)))
        self.same(machine_waste(FORK, ONE, waits_machine(3, 4)), ((5, 2),))
        start = ((0, 0, 1, 2, 0), 1)
        self.same(machine_waste(TWO_LOTS, start, waits_machine(5, 2)), ((2, 1), (4, 1)))
        self.same(better_table(TWO_LOTS, start, waits_machine(5, 2)), (start, no_load(5), (6, 1)))


class Prices(unittest.TestCase, Same):
    def test_as_sums(self):
        dice = random.Random(217)
        lengths = set()
        for _, web, start, machine in sure_machines(218, 120):
            prices = random_prices(dice, size_of(web), None)
            # All passes, less those before the last moment of the prices, have the last prices.
            walk = MachineWalk(web, start, machine, len(prices) - 1)
            passes = values(machine_end(web, start, machine)[1])
            total = sum((product_values(values(price), goes) for price, goes in zip(prices, walk.goes)), Fraction(0))
            last = [one - gone for one, gone in zip(passes, walk.gone[-1])]
            total += product_values(values(prices[-1]), last)
            self.same(machine_price(web, start, machine, prices), make_quotient(total))
            self.same(machine_price(web=web, start=start, machine=machine, prices=prices), make_quotient(total))
            lengths.add(len(prices))
        self.assertGreaterEqual(len(lengths), 4)

    def test_price_of_coins(self):
        dice = random.Random(219)
        for web in WEBS:
            coins = tuple(dice.choice(((1, 3), (1, 1), (1, 2), (2, 3))) for _ in range(size_of(web)))
            start, prices = random_load(dice, size_of(web)), random_prices(dice, size_of(web), None)
            self.same(machine_price(web, start, coin_machine(coins), prices), coin_price(web, start, coins, prices))

    def test_told(self):
        dearer = (((1, 1), 1), ((2, 2), 1))
        self.same(machine_price(HALVES, LEFT, coin_machine(((1, 3), (1, 1))), dearer), (4, 3))
        # The last prices hold for all later moments.
        self.same(machine_price(TURN, LEFT, waits_machine(2, 5), (((1, 0), 1), ((0, 1), 2))), (2, 1))
        self.same(machine_price(TURN, LEFT, waits_machine(2, 5), (((1, 10), 1),)), (23, 1))
        self.same(machine_price(BOARD, no_load(4), waits_machine(4, 5), (no_load(4),)), (0, 1))
