"""Coins and prices of stage 12, with their consequences."""

import random
import unittest
from fractions import Fraction

from stayorgo.brinkcourses import go_by, stay_by
from stayorgo.brinkends import go_end, stay_end
from stayorgo.coins import coin_course, coin_end, coin_of, is_coins, is_least_coin
from stayorgo.loads import no_load, unit_load, weight_of
from stayorgo.prices import coin_price, go_price, is_prices, never_fall, never_rise, stay_price

from tests.support import (
    ALONE, BOARD, FORK, HALVES, ONE, THREE_LOTS, TURN, WEBS, Same, Walk, bad_coins, bad_loads, bad_prices, bad_numbers,
    bad_wishes, chance, check_refusals, fields_of, go_walk, load_of_values, make_quotient, product_values, raised,
    random_load, random_web, size_of, slow_end, slow_lots, slow_table, solve, stay_walk, step_values, sure_wishes,
    value, values, wish_cases,
)
from tests.test_courses import go_table, slow_stuck, stay_table
from tests.test_tables import CheckNoRoom

LEFT = ((1, 0), 1)
EVEN = ((1, 1), 2)
ZERO = no_load(2)
DEARER = (((1, 1), 1), ((2, 2), 1))


def coin_rule(coins):
    return lambda moment, place, stands, kept, gone: stands * (1 - Fraction(*coins[place]))


def random_coins(dice, size):
    return tuple(dice.choice(((0, 1), (0, 1), (1, 1), (1, 2), (2, 3), (1, 7))) for _ in range(size))


def coin_cases(seed, many=150):
    dice = random.Random(seed)
    webs = list(WEBS) + [random_web(dice) for _ in range(15)]
    for turn in range(many):
        web = webs[turn % len(webs)]
        yield dice, web, random_load(dice, size_of(web)), random_coins(dice, size_of(web))


def reach_of(web, start, coins):
    held = {i for i, top in enumerate(start[0]) if top}
    for _ in range(size_of(web)):
        goes = {i for i in held if coins[i] != (1, 1)}
        held = held | {j for i in goes for j in range(size_of(web)) if web[0][i][j]}
    return sorted(held)


def slow_coin_end(web, start, coins):
    """The pair (end, passes): what comes to each place in all, by its own equations."""
    places = reach_of(web, start, coins)
    goes = {i: 1 - Fraction(*coins[i]) for i in places}
    matrix = [[(i == j) - goes[i] * chance(web, i, j) for i in places] for j in places]
    found = solve(matrix, [values(start)[j] for j in places])
    end, passes = [Fraction(0)] * size_of(web), [Fraction(0)] * size_of(web)
    for place, number in zip(places, found):
        end[place], passes[place] = number * (1 - goes[place]), number * goes[place]
    return load_of_values(end), load_of_values(passes)


class Coins(unittest.TestCase, Same, CheckNoRoom):
    def test_kinds(self):
        for coins in (((0, 1),), ((1, 1),), ((1, 2),), ((10 ** 50, 10 ** 50 + 1),)):
            self.same(is_coins(1, coins), True)
            self.same(is_coins(size=2, thing=coins * 2), True)
            self.same(is_coins(2, coins), False)
        for size in (1, 2, 3):
            for thing in bad_coins(size):
                self.same(is_coins(size, thing), False)

    def test_coins_of_wishes(self):
        both = 0
        for web, start, wish, table in sure_wishes(62, 120):
            parts = []
            for stays, goes in zip(values(wish), values(table)):
                parts.append(make_quotient(stays / (stays + goes) if stays + goes else Fraction(1)))
                both += not stays + goes
            coins = coin_of(web, start, wish)
            self.same(coins, tuple(parts))
            self.same(coin_of(web=web, start=start, wish=wish), coins)
            self.same(is_coins(size_of(web), coins), True)
            self.same(coin_end(web, start, coins), (wish, table))
            self.same(is_least_coin(web, start, coins), True)
        self.assertGreater(both, 20)
        self.same(coin_of(TURN, ZERO, ZERO), ((1, 1), (1, 1)))
        self.same(coin_of(FORK, ONE, ((0, 0, 1), 1)), ((0, 1), (0, 1), (1, 1)))
        for web, start, wish in wish_cases(63, 60):
            if slow_table(web, start, wish) is None:
                self.refuses_room(web, start, wish, coin_of, web, start, wish)

    def test_courses(self):
        for _, web, start, coins in coin_cases(64):
            for many in (0, 1, 5):
                course = Walk(web, start, many, coin_rule(coins)).course()
                self.same(coin_course(web, start, coins, many), course)
                self.same(coin_course(web=web, start=start, coins=coins, many=many), course)
        self.same(coin_course(TURN, LEFT, ((0, 1), (1, 1)), 3), (ZERO, LEFT, LEFT, LEFT))
        self.same(coin_course(TURN, LEFT, ((1, 1), (0, 1)), 1), (ZERO, ZERO))

    def test_ends(self):
        told = {True: 0, False: 0, None: 0}
        for _, web, start, coins in coin_cases(65, 300):
            free = [place for place, coin in enumerate(coins) if coin == (0, 1)]
            walk = Walk(web, start, size_of(web), coin_rule(coins))
            stuck = slow_stuck(web, walk.last, free)
            if stuck is not None:
                told[None] += 1
                for function in (coin_end, is_least_coin):
                    self.same(fields_of(raised(function, web, start, coins)), ("Endless", (stuck,)))
                continue
            end, passes = slow_coin_end(web, start, coins)
            self.same(coin_end(web, start, coins), (end, passes))
            self.same(coin_end(web=web, start=start, coins=coins), (end, passes))
            self.same(end, slow_end(web, start, passes))
            self.same(weight_of(end), weight_of(start))
            least = all(any(passes[0][i] == 0 for i in lot) for lot in slow_lots(web))
            told[least] += 1
            self.same(is_least_coin(web, start, coins), least)
            self.same(is_least_coin(web=web, start=start, coins=coins), least)
            self.same(slow_table(web, start, end) == passes, least)
        self.assertGreater(min(told.values()), 20)

    def test_coins_of_nought_and_one(self):
        never, always = ((0, 1),) * 5, ((1, 1),) * 5
        for start, stuck in (
            (unit_load(5, 0), (1,)), (unit_load(5, 4), (4,)), (unit_load(5, 3), (2, 3)), (((0, 0, 1, 0, 1), 1), (2, 3)),
        ):
            for function in (coin_end, is_least_coin):
                self.same(fields_of(raised(function, THREE_LOTS, start, never)), ("Endless", (stuck,)))
            self.same(coin_end(THREE_LOTS, start, always), (start, no_load(5)))
            self.same(is_least_coin(THREE_LOTS, start, always), True)
        self.same(coin_end(THREE_LOTS, no_load(5), never), (no_load(5), no_load(5)))
        # The second lot goes round for ever, but nothing comes to it.
        some = ((0, 1), (1, 1), (0, 1), (0, 1), (0, 1))
        self.same(coin_end(THREE_LOTS, unit_load(5, 1), some), (unit_load(5, 1), no_load(5)))
        self.same(fields_of(raised(coin_end, THREE_LOTS, unit_load(5, 0), some)), ("Endless", ((2, 3),)))
        self.same(coin_end(TURN, LEFT, ((1, 2), (1, 3))), (((3, 1), 4), ((3, 2), 4)))
        self.same(is_least_coin(TURN, LEFT, ((1, 2), (1, 3))), False)
        self.same(coin_end(ALONE, ((3,), 1), ((1, 7),)), (((3,), 1), ((18,), 1)))
        self.same(is_least_coin(ALONE, ((3,), 1), ((1, 7),)), False)

    def test_refusals(self):
        good = [("web", TURN), ("start", LEFT), ("coins", ((1, 2), (1, 1)))]
        bad = {"start": bad_loads(2), "coins": bad_coins(2), "many": bad_numbers()}
        for function in (coin_end, is_least_coin):
            check_refusals(self, function, good, bad)
        check_refusals(self, coin_course, good + [("many", 2)], bad)
        good = [("web", FORK), ("start", ONE), ("wish", ((0, 1, 3), 4))]
        check_refusals(self, coin_of, good, {"start": bad_loads(3), "wish": bad_wishes(3)})


def slow_price(web, walk, passes, prices):
    """The price moment by moment, and of all that passes later at the last prices."""
    total, gone = Fraction(0), [Fraction(0)] * size_of(web)
    for t in range(len(prices) - 1):
        total += product_values(walk.goes[t], values(prices[t]))
        gone = [one + more for one, more in zip(gone, walk.goes[t])]
    late = [one - other for one, other in zip(values(passes), gone)]
    return make_quotient(total + product_values(late, values(prices[-1])))


def random_prices(dice, size, kind):
    """One to six prices: any, such that never fall, such that never rise."""
    prices = [values(random_load(dice, size))]
    for _ in range(dice.randint(0, 5)):
        more = values(random_load(dice, size, 3, 0.5))
        prices.append([one + other for one, other in zip(prices[-1], more)] if kind else more)
    loads = tuple(load_of_values(numbers) for numbers in prices)
    return loads[::-1] if kind == "never rise" else loads


class Prices(unittest.TestCase, Same, CheckNoRoom):
    def test_kinds(self):
        for prices in ((LEFT,), DEARER, (LEFT, ZERO, EVEN, LEFT, ZERO, LEFT), (LEFT,) * 9):
            self.same(is_prices(2, prices), True)
            self.same(is_prices(size=2, thing=prices), True)
            self.same(is_prices(3, prices), False)
        for size in (1, 2, 3):
            for thing in bad_prices(size):
                self.same(is_prices(size, thing), False)

    def test_falls_and_rises(self):
        dice = random.Random(66)
        told = {}
        for turn in range(300):
            size = dice.randint(1, 3)
            prices = random_prices(dice, size, (None, "never fall", "never rise")[turn % 3])
            if turn % 5 == 0:
                prices = prices[:1] * dice.randint(1, 6)
            lists = [values(load) for load in prices]
            falls = any(one > other for first, then in zip(lists, lists[1:]) for one, other in zip(first, then))
            rises = any(one < other for first, then in zip(lists, lists[1:]) for one, other in zip(first, then))
            told[falls, rises] = told.get((falls, rises), 0) + 1
            self.same(never_fall(size, prices), not falls)
            self.same(never_fall(size=size, prices=prices), not falls)
            self.same(never_rise(size, prices), not rises)
            self.same(never_rise(size=size, prices=prices), not rises)
        self.assertGreater(min(told.values()), 20)
        self.assertEqual(len(told), 4)
        self.same((never_fall(2, DEARER), never_rise(2, DEARER), never_rise(2, DEARER[::-1])), (True, False, True))

    def test_prices(self):
        dice = random.Random(67)
        unlike = 0
        for web, start, wish, table in sure_wishes(67, 150):
            kind = dice.choice((None, "never fall", "never rise"))
            prices = random_prices(dice, size_of(web), kind)
            many = len(prices)
            coins = coin_of(web, start, wish)
            go = slow_price(web, go_walk(web, start, table, many), table, prices)
            stay = slow_price(web, stay_walk(web, start, wish, many), table, prices)
            coin = slow_price(web, Walk(web, start, many, coin_rule(coins)), table, prices)
            self.same(go_price(web, start, wish, prices), go)
            self.same(go_price(web=web, start=start, wish=wish, prices=prices), go)
            self.same(stay_price(web, start, wish, prices), stay)
            self.same(stay_price(web=web, start=start, wish=wish, prices=prices), stay)
            self.same(coin_price(web, start, coins, prices), coin)
            self.same(coin_price(web=web, start=start, coins=coins, prices=prices), coin)
            if kind:
                unlike += go != stay
                bounds = [value(go), value(coin), value(stay)]
                self.assertEqual(bounds, sorted(bounds, reverse=kind == "never rise"))
        self.assertGreater(unlike, 8)

    def test_prices_of_any_coins(self):
        dice = random.Random(68)
        sure = 0
        for _, web, start, coins in coin_cases(68):
            prices = random_prices(dice, size_of(web), None)
            refusal = raised(coin_end, web, start, coins)
            if refusal is not None:
                self.same(fields_of(raised(coin_price, web, start, coins, prices)), fields_of(refusal))
                continue
            sure += 1
            passes = slow_coin_end(web, start, coins)[1]
            price = slow_price(web, Walk(web, start, len(prices), coin_rule(coins)), passes, prices)
            self.same(coin_price(web, start, coins, prices), price)
        self.assertGreater(sure, 40)

    def test_the_last_prices_stand_for_later_moments(self):
        for prices in (DEARER, (EVEN,), (LEFT, ZERO, EVEN)):
            for more in range(1, 4):
                longer = prices + prices[-1:] * more
                self.same(go_price(HALVES, LEFT, EVEN, longer), go_price(HALVES, LEFT, EVEN, prices))
                self.same(stay_price(HALVES, LEFT, EVEN, longer), stay_price(HALVES, LEFT, EVEN, prices))
                coins = ((1, 3), (1, 1))
                self.same(coin_price(HALVES, LEFT, coins, longer), coin_price(HALVES, LEFT, coins, prices))
        # One price alone is the product with the table.
        self.same(go_price(BOARD, unit_load(4, 0), unit_load(4, 3), (((1, 2, 3, 4), 1),)), (35, 3))
        self.same(stay_price(BOARD, unit_load(4, 0), unit_load(4, 3), (((1, 2, 3, 4), 1),)), (35, 3))
        self.same(stay_price(HALVES, LEFT, EVEN, (ZERO, ZERO, ZERO, LEFT)), (1, 8))
        self.same(coin_price(TURN, LEFT, ((1, 1), (1, 1)), DEARER), (0, 1))
        # At moments 1, 3, 5, .. a half, a fourth, an eighth, .. goes on from place 1.
        self.same(coin_price(TURN, LEFT, ((0, 1), (1, 2)), (ZERO, ((0, 1), 1), ZERO, ((0, 8), 1))), (9, 2))

    def test_refusals(self):
        for function in (never_fall, never_rise):
            check_refusals(self, function, [("size", 2), ("prices", DEARER)], {"prices": bad_prices(2)})
        good = [("web", HALVES), ("start", LEFT), ("wish", EVEN), ("prices", DEARER)]
        bad = {"start": bad_loads(2), "wish": bad_wishes(2), "prices": bad_prices(2)}
        for function in (go_price, stay_price):
            check_refusals(self, function, good, bad)
            unlike = (FORK, ONE, ((0, 1, 0), 1))
            self.same(fields_of(raised(function, *unlike, DEARER)), ("NotUsable", ("prices", -1)))
            self.refuses_room(*unlike, function, *unlike, (ONE,))
        good[2] = ("coins", ((1, 3), (1, 1)))
        check_refusals(self, coin_price, good, {"start": bad_loads(2), "coins": bad_coins(2), "prices": bad_prices(2)})
        never = ((0, 1), (0, 1))
        self.same(fields_of(raised(coin_price, TURN, LEFT, never, ())), ("NotUsable", ("prices", -1)))
        self.same(fields_of(raised(coin_price, TURN, LEFT, never, DEARER)), ("Endless", ((0, 1),)))


class AnyRules(unittest.TestCase, Same):
    def test_no_sure_rule_with_this_end_has_a_lesser_rest(self):
        # (G6): at each moment at each place the rest of brinks, of coins, is at least go-first's.
        for _, web, start, coins in coin_cases(69, 60):
            brinks = tuple(None if coin == (0, 1) else (coin[1], (0, 1)) for coin in coins)
            for function, rule, given in (
                (coin_end, coin_rule, coins), (go_end, go_table, brinks), (stay_end, stay_table, brinks),
            ):
                if raised(function, web, start, given) is None:
                    end, passes = function(web, start, given)
                    table = slow_table(web, start, end)
                    for gone, least in zip(Walk(web, start, 6, rule(given)).gone, go_walk(web, start, table, 6).gone):
                        rest = [one - other for one, other in zip(values(passes), gone)]
                        self.assertTrue(all(one >= top - less for one, top, less in zip(rest, values(table), least)))

    def test_steps(self):
        self.same(load_of_values(step_values(TURN, values(LEFT))), ((0, 1), 1))
        self.same(go_by(TURN, LEFT, (None, (1, (0, 1))), 2), coin_course(TURN, LEFT, ((0, 1), (1, 1)), 2))
        self.same(stay_by(TURN, LEFT, ((0, (0, 1)), None), 2), coin_course(TURN, LEFT, ((0, 1), (1, 1)), 2))
