"""Two lines and the class Clock of stage 12, with the consequences of both."""

import random
import unittest
from fractions import Fraction

from stayorgo.brinks import go_brinks, stay_brinks
from stayorgo.clockclasses import Clock
from stayorgo.coins import coin_of
from stayorgo.loads import no_load
from stayorgo.prices import coin_price, go_price, is_prices, stay_price
from stayorgo.twolines import alike_prices, first_fall, first_rise, two_lines
from stayorgo.wishclasses import Wish
from stayorgo.wishes import is_wish

from tests.support import (
    BOARD, FORK, HALVES, ONE, TURN, Same, bad_amounts, bad_loads, bad_numbers, bad_prices, bad_wishes, check_refusals,
    fields_of, go_walk, load_of_values, make_quotient, raised, size_of, stay_walk, sure_wishes, value, values,
    wish_cases,
)
from tests.test_coins import random_prices
from tests.test_tables import CheckNoRoom
from tests.test_webs import WRONG_WEBS

LEFT = ((1, 0), 1)
EVEN = ((1, 1), 2)
LATER = ((0, 1, 3), 4)
ZERO = no_load(2)


def bad_row_of_numbers():
    """Values that are no nonempty tuples of quotients of at least 0."""
    return [None, True, 1, "", (), [(1, 1)], (1, 1)] + [((1, 2), thing) for thing in bad_amounts()]


def random_numbers(dice):
    return tuple(make_quotient(Fraction(dice.randint(0, 4), dice.randint(1, 3))) for _ in range(dice.randint(1, 6)))


class TwoLines(unittest.TestCase, Same):
    def test_two_lines(self):
        for many in range(6):
            size = many + 3
            rows = [[0] * size for _ in range(size)]
            for place in range(size - 1):
                rows[place][place + 1] = 1
            rows[-1][-1] = 1
            web = (tuple(tuple(row) for row in rows), 1)
            start = ((1, 1) + (0,) * (many + 1), 2)
            wish = ((0,) * (many + 1) + (1, 1), 2)
            self.same(two_lines(many), (web, start, wish))
            self.same(two_lines(many=many), (web, start, wish))
            self.same(is_wish(web, start, wish), True)

    def test_falls_and_rises(self):
        dice = random.Random(70)
        told = {}
        for _ in range(300):
            numbers = random_numbers(dice)
            parts = [Fraction(*number) for number in numbers]
            falls = [t for t in range(len(parts) - 1) if parts[t + 1] < parts[t]] + [None]
            rises = [t for t in range(len(parts) - 1) if parts[t + 1] > parts[t]] + [None]
            self.same(first_fall(numbers), falls[0])
            self.same(first_fall(numbers=numbers), falls[0])
            self.same(first_rise(numbers), rises[0])
            self.same(first_rise(numbers=numbers), rises[0])
            told[falls[0]] = told.get(falls[0], 0) + 1
        self.assertEqual(set(told), {None, 0, 1, 2, 3, 4})
        steps = ((1, 3), (1, 2), (2, 3), (2, 3), (1, 1), (5, 4))
        self.same((first_fall(steps), first_rise(steps)), (None, 0))
        self.same((first_fall(steps[::-1]), first_rise(steps[::-1])), (0, None))
        self.same((first_fall(((1, 2),)), first_rise(((1, 2),))), (None, None))
        self.same((first_fall(((1, 2),) * 6), first_rise(((1, 2),) * 6)), (None, None))
        self.same(first_fall(((1, 1),) * 5 + ((0, 1),)), 4)
        self.same(first_rise(((1, 1),) * 5 + ((10 ** 12 + 1, 10 ** 12),)), 4)

    def test_alike_prices(self):
        dice = random.Random(71)
        for _ in range(40):
            size, numbers = dice.randint(1, 8), random_numbers(dice)
            prices = tuple(load_of_values([Fraction(*number)] * size) for number in numbers)
            self.same(alike_prices(size, numbers), prices)
            self.same(alike_prices(size=size, numbers=numbers), prices)
            self.same(is_prices(size, prices), True)
        self.same(alike_prices(2, ((0, 1), (3, 2))), (((0, 0), 1), ((3, 3), 2)))

    def test_a_fall_makes_go_first_dearer_and_a_rise_stay_first(self):
        dice = random.Random(72)
        told = set()
        for many in range(6):
            web, start, wish = two_lines(many)
            for _ in range(25):
                numbers = random_numbers(dice)
                prices = alike_prices(size_of(web), numbers)
                parts = [Fraction(*number) for number in numbers] + [Fraction(*numbers[-1])] * 8
                unlike = value(go_price(web, start, wish, prices)) - value(stay_price(web, start, wish, prices))
                self.assertEqual(unlike, (parts[many] - parts[many + 1]) / 2)
                told.add((many, unlike > 0, unlike < 0))
                if first_fall(numbers) == many:
                    self.assertGreater(unlike, 0)
                if first_rise(numbers) == many:
                    self.assertLess(unlike, 0)
        self.assertGreaterEqual(len(told), 15)

    def test_refusals(self):
        check_refusals(self, two_lines, [("many", 2)], {"many": bad_numbers()})
        for function in (first_fall, first_rise):
            check_refusals(self, function, [("numbers", ((1, 2),))], {"numbers": bad_row_of_numbers()})
        check_refusals(self, alike_prices, [("size", 2), ("numbers", ((1, 2),))], {"numbers": bad_row_of_numbers()})


def both_gone(web, start, wish, table, many):
    """The pair of stay-first's and go-first's passes before moment many."""
    return (load_of_values(stay_walk(web, start, wish, many).gone[-1]),
            load_of_values(go_walk(web, start, table, many).gone[-1]))


def both_left(web, start, wish, table, many):
    """The pair of their rests at it."""
    stays, goes = both_gone(web, start, wish, table, many)
    return tuple(
        load_of_values([one - other for one, other in zip(values(table), values(gone))]) for gone in (stays, goes)
    )


class Clocks(unittest.TestCase, Same, CheckNoRoom):
    def test_methods(self):
        dice = random.Random(73)
        rung = {True: 0, False: 0}
        for web, start, wish, table in sure_wishes(73, 70):
            clock = Clock(web, start, wish)
            moment = 0
            for _ in range(3):
                self.same(clock.moment_now, moment)
                self.same(clock.both_passes(), both_gone(web, start, wish, table, moment))
                rests = both_left(web, start, wish, table, moment)
                self.same(clock.both_rests(), rests)
                rung[any(rests[1][0])] += 1
                self.same(bool(clock), any(rests[1][0]))
                for many in (0, 2):
                    self.same(clock.look_ahead(many), both_left(web, start, wish, table, moment + many))
                    self.same(clock.look_ahead(many=many), both_left(web, start, wish, table, moment + many))
                self.same(clock.moment_now, moment)
                self.check_generator(clock, web, start, wish, table)
                self.check_brinks_and_prices(dice, clock, web, start, wish, table)
                self.same(clock.moment_now, moment)
                more = dice.randint(0, 3)
                moment += more
                self.same(clock.tick(many=more), moment)
        self.assertGreater(min(rung.values()), 30)

    def check_generator(self, clock, web, start, wish, table):
        for many in (0, 3):
            told = [(t, *both_gone(web, start, wish, table, t)) for t in range(many + 1)]
            self.same(list(clock.moments_to(many)), told)
            self.same([held for held in clock.moments_to(many=many)], told)

    def check_brinks_and_prices(self, dice, clock, web, start, wish, table):
        for many in (0, 4):
            brinks = (stay_brinks(web, start, wish, many), go_brinks(web, start, table, many))
            self.same(clock.both_brinks(many), brinks)
            self.same(clock.both_brinks(many=many), brinks)
        prices = random_prices(dice, size_of(web), None)
        self.same(clock.price_by(prices), go_price(web, start, wish, prices))
        self.same(clock.price_by(prices=prices, manner="go"), go_price(web, start, wish, prices))
        self.same(clock.price_by(prices, manner="stay"), stay_price(web, start, wish, prices))
        price = coin_price(web, start, coin_of(web, start, wish), prices)
        self.same(clock.price_by(prices, manner="coin"), price)

    def test_ticks(self):
        clock = Clock(HALVES, LEFT, EVEN)
        self.same((clock.moment_now, clock.tick(many=0), clock.tick(), clock.tick(many=3), clock.tick()), (0, 0, 1, 4, 5))
        self.same(clock.moment_now, 5)
        self.same(clock.both_passes(), (((31, 0), 32), LEFT))
        self.same(clock.tick(many=11), 16)
        self.same(clock.both_rests(), (((1, 0), 2 ** 16), ZERO))

    def test_truth(self):
        clock = Clock(FORK, ONE, LATER)
        told = []
        for _ in range(4):
            told.append(bool(clock))
            clock.tick()
        self.same(told, [True, True, False, False])
        self.same(bool(Clock(FORK, LATER, LATER)), False)
        self.same(bool(Clock(TURN, ZERO, ZERO)), False)
        lasting = Clock(BOARD, ((1, 0, 0, 0), 1), ((0, 0, 0, 1), 1))
        lasting.tick(many=16)
        self.same(bool(lasting), True)

    def test_equal(self):
        one, other = Clock(FORK, ONE, LATER), Clock(FORK, ONE, LATER)
        self.assertTrue(one == other)
        self.assertFalse(one != other)
        one.tick()
        self.assertFalse(one == other)
        self.assertTrue(one != other)
        other.tick(many=1)
        self.assertTrue(one == other)
        one.look_ahead(3)
        list(one.moments_to(2))
        self.assertTrue(one == other)
        self.assertFalse(Clock(FORK, ONE, LATER) == Clock(FORK, LATER, LATER))
        self.assertFalse(Clock(FORK, ONE, LATER) == Clock(FORK, ONE, ONE))
        self.assertFalse(Clock(TURN, LEFT, LEFT) == Clock(HALVES, LEFT, LEFT))
        wider = (((0, 1, 3), (0, 0, 4), (0, 0, 4)), 4)
        fresh = Clock(FORK, ONE, ONE)
        for unlike in (Clock(FORK, ONE, LATER), Clock(FORK, LATER, LATER), Clock(wider, ONE, ONE), Wish(FORK, ONE, ONE),
                       None, True, 0, (FORK, ONE, ONE), "", ONE):
            self.assertFalse(fresh == unlike)
            self.assertTrue(fresh != unlike)

    def test_clocks_go_by_themselves(self):
        one, other = Clock(HALVES, LEFT, EVEN), Clock(HALVES, LEFT, EVEN)
        one.tick(many=2)
        self.same((one.moment_now, other.moment_now), (2, 0))
        early = one.moments_to(1)
        one.tick()
        self.same(list(early), [(0, ZERO, ZERO), (1, ((1, 0), 2), LEFT)])

    def test_consequences(self):
        # go-first's rests at each place at most those of stay-first, its passes at least those.
        for web, start, wish, table in sure_wishes(74, 40):
            clock = Clock(web, start, wish)
            for _, stays, goes in clock.moments_to(5):
                self.assertTrue(all(one <= other for one, other in zip(values(stays), values(goes))))
                self.assertTrue(all(one <= other for one, other in zip(values(goes), values(table))))

    def test_refusals(self):
        good = [("web", FORK), ("start", ONE), ("wish", LATER)]
        check_refusals(self, Clock, good, {"web": WRONG_WEBS, "start": bad_loads(3), "wish": bad_wishes(3)})
        for web, start, wish in list(wish_cases(75, 30)) + [(FORK, ONE, ((0, 1, 0), 1))]:
            if not is_wish(web, start, wish):
                self.refuses_room(web, start, wish, Clock, web, start, wish)
        clock = Clock(FORK, ONE, LATER)
        clock.tick()
        for thing in bad_numbers():
            for call in (
                lambda: clock.tick(many=thing), lambda: clock.look_ahead(thing), lambda: clock.look_ahead(many=thing),
                lambda: list(clock.moments_to(thing)), lambda: clock.both_brinks(thing),
                lambda: clock.both_brinks(many=thing), lambda: list(clock.moments_to(many=thing)),
            ):
                self.same(fields_of(raised(call)), ("NotUsable", ("many", -1)))
        self.same(clock.moment_now, 1)
        for thing in bad_prices(3):
            for manner in ("go", "stay", "coin", None):
                refusal = raised(clock.price_by, thing, manner=manner)
                self.same(fields_of(refusal), ("NotUsable", ("prices", -1)))
        for manner in (None, True, 0, "", "Go", "go ", "coins", ("go",), ["go"], (), "gostay", clock):
            self.same(fields_of(raised(clock.price_by, (ONE,), manner=manner)), ("NotUsable", ("manner", -1)))
        with self.assertRaises(TypeError):
            clock.tick(1)
        with self.assertRaises(TypeError):
            clock.price_by((ONE,), "go")

    def test_generator_raises_when_first_asked(self):
        held = Clock(FORK, ONE, LATER).moments_to(-1)
        self.same(fields_of(raised(next, held)), ("NotUsable", ("many", -1)))
