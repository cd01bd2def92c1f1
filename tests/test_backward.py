"""Webs that are one closed lot: backward, returns, forgetting ([79], [80], [81], and what [82] and (G11) say of them)."""

import random
import unittest
from fractions import Fraction
from math import gcd

from stayorgo.backwards import backward, is_one_lot
from stayorgo.forgettings import (
    forgetting, forgetting_need, home_need, lets_forgetting, worst_need, worst_places,
)
from stayorgo.loads import unit_load
from stayorgo.needs import needs_of, round_trip
from stayorgo.returns import need_by, returns_of
from stayorgo.stepping import shares_of
from stayorgo.tables import table_of
from stayorgo.webchecker import lets_web
from stayorgo.webmaking import beside, lazily, ring_web

from tests.support import (
    ALONE, BOARD, CIRCLE, FORK, HALVES, ONE, THREE_LOTS, TURN, TWO_LOTS, WEBS, Same, bad_places, bad_spreads, chance,
    check_refusals, fields_of, load_of_values, lot_cases, make_quotient, raised, random_lot, random_spread, random_web,
    size_of, slow_lots, slow_need, slow_shares, slow_table, value, values,
)

ONE_WEB_MORE = [FORK, BOARD, TWO_LOTS, THREE_LOTS, beside(TURN, TURN), lazily(TURN, (1, 1)), beside(ALONE, ALONE)]
OF_ONE_LOT = (
    (backward, ()), (returns_of, ()), (need_by, (None, None)), (forgetting, ()), (forgetting_need, ()),
    (worst_need, (None,)), (worst_places, (None,)), (home_need, (None,)), (lets_forgetting, (None,)),
)


def returns_values(web):
    rows, bottom = returns_of(web)
    return [[Fraction(number, bottom) for number in row] for row in rows]


def by_formula(web, start, wish, g):
    """The need as the greatest, over the places, of what [82] tells."""
    shares = slow_shares(web)
    unlike = [one - other for one, other in zip(values(wish), values(start))]
    places = range(size_of(web))
    return max(sum(unlike[i] * g[i][j] for i in places) / shares[j] for j in places)


class Backward(unittest.TestCase, Same):
    def test_one_lot(self):
        dice = random.Random(270)
        told = {True: 0, False: 0}
        for web in list(WEBS) + ONE_WEB_MORE + [random_web(dice) for _ in range(60)] + [ring_web(8)]:
            alone = slow_lots(web) == (tuple(range(size_of(web))),)
            self.same(is_one_lot(web), alone)
            self.same(is_one_lot(web=web), alone)
            told[alone] += 1
        self.assertGreater(min(told.values()), 10)

    def test_shares_and_steps(self):
        for _, web in lot_cases(271, 70):
            back, shares = backward(web), slow_shares(web)
            self.same(backward(web=web), back)
            self.same(lets_web(back), size_of(web))
            for i in range(size_of(web)):
                for j in range(size_of(web)):
                    self.assertEqual(shares[i] * chance(back, i, j), shares[j] * chance(web, j, i))

    def test_twice_and_its_shares(self):
        for _, web in lot_cases(272, 70):
            back, lot = backward(web), tuple(range(size_of(web)))
            self.same(is_one_lot(back), True)
            self.same(backward(back), web)
            self.same(shares_of(back, lot), shares_of(web, lot))
            self.same(shares_of(back, lot), load_of_values(slow_shares(web)))

    def test_there_and_back(self):
        unlike = 0
        for _, web in lot_cases(273, 60):
            back = backward(web)
            for here in range(size_of(web)):
                for there in range(size_of(web)):
                    self.same(round_trip(back, here, there), round_trip(web, here, there))
            unlike += needs_of(back) != needs_of(web)
        self.assertGreater(unlike, 10)

    def test_told(self):
        self.same(backward(CIRCLE), (((0, 0, 2), (1, 0, 1), (0, 2, 0)), 2))
        self.same(backward(ring_web(4)), (((0, 0, 0, 1), (1, 0, 0, 0), (0, 1, 0, 0), (0, 0, 1, 0)), 1))
        for web in (HALVES, TURN, ALONE):
            self.same(backward(web), web)

    def test_webs_of_more_lots(self):
        for web in ONE_WEB_MORE:
            for function, more in OF_ONE_LOT:
                self.same(fields_of(raised(function, web, *more)), ("NotUsable", ("web", -1)), function.__name__)
                self.same(fields_of(raised(function, web=web, **dict(zip(
                    function.__code__.co_varnames[1:], more)))), ("NotUsable", ("web", -1)), function.__name__)


class Returns(unittest.TestCase, Same):
    def test_put_into_their_equations(self):
        for _, web in lot_cases(274, 70):
            rows, bottom = returns_of(web)
            self.same(returns_of(web=web), (rows, bottom))
            self.assertEqual(gcd(bottom, *[number for row in rows for number in row]), 1)
            self.assertTrue(type(rows) is tuple and all(type(row) is tuple for row in rows) and bottom >= 1)
            g, shares, places = returns_values(web), slow_shares(web), range(size_of(web))
            for j in places:
                self.assertEqual(sum(shares[k] * g[k][j] for k in places), 0)
                for i in places:
                    stepped = sum(chance(web, i, k) * g[k][j] for k in places)
                    self.assertEqual(g[i][j] - stepped, (i == j) - shares[j])

    def test_backward(self):
        for _, web in lot_cases(275, 40):
            g, back, shares = returns_values(web), returns_values(backward(web)), slow_shares(web)
            for i in range(size_of(web)):
                for j in range(size_of(web)):
                    self.assertEqual(shares[i] * back[i][j], shares[j] * g[j][i])

    def test_needs_by_returns_and_by_the_table(self):
        for dice, web in lot_cases(276, 120):
            start, wish = random_spread(dice, size_of(web)), random_spread(dice, size_of(web))
            need = make_quotient(by_formula(web, start, wish, returns_values(web)))
            self.same(need_by(web, start, wish), need)
            self.same(need_by(web=web, start=start, wish=wish), need)
            self.same(need, make_quotient(sum(values(slow_table(web, start, wish)))))
        for _, web in lot_cases(277, 20):
            size = size_of(web)
            for i in range(size):
                for j in range(size):
                    need = need_by(web, unit_load(size, i), unit_load(size, j))
                    self.same(need, make_quotient(slow_need(web, i, j)))

    def test_told(self):
        self.same(returns_of(TURN), (((1, -1), (-1, 1)), 4))
        self.same(returns_of(HALVES), (((1, -1), (-1, 1)), 2))
        self.same(returns_of(ALONE), (((0,),), 1))
        self.same(need_by(TURN, ((1, 0), 1), ((0, 1), 1)), (1, 1))
        self.same(need_by(ALONE, ((1,), 1), ((1,), 1)), (0, 1))

    def test_greatest(self):
        dice = random.Random(278)
        rows = []
        for i in range(8):
            row = [1] * 8
            for _ in range(52):
                row[dice.randrange(8)] += 1
            rows.append(tuple(row))
        web = (tuple(rows), 60)
        for k in range(2):
            g, shares, places = returns_values(web), slow_shares(web), range(8)
            for i in places:
                for j in places:
                    stepped = sum(chance(web, i, k) * g[k][j] for k in places)
                    self.assertEqual(g[i][j] - stepped, (i == j) - shares[j])
            self.same(lets_forgetting(web, forgetting(web)), forgetting_need(web))
            web = ring_web(8)

    def test_refusals(self):
        good = [("web", CIRCLE), ("start", ONE), ("wish", ONE)]
        check_refusals(self, need_by, good, {"start": bad_spreads(3), "wish": bad_spreads(3)})


def slow_worst(web, wish):
    """The needs of the wish from each place, by tables."""
    size = size_of(web)
    return [sum(values(slow_table(web, unit_load(size, place), wish))) for place in range(size)]


class Forgetting(unittest.TestCase, Same):
    def test_worst_needs_and_places(self):
        several = 0
        for dice, web in lot_cases(280, 60, 4):
            wish = dice.choice((random_spread(dice, size_of(web)), forgetting(web)))
            needs = slow_worst(web, wish)
            places = tuple(place for place, need in enumerate(needs) if need == max(needs))
            self.same(worst_need(web, wish), make_quotient(max(needs)))
            self.same(worst_need(web=web, wish=wish), make_quotient(max(needs)))
            self.same(worst_places(web, wish), places)
            self.same(worst_places(web=web, wish=wish), places)
            several += len(places) > 1
        self.assertGreater(several, 8)

    def test_forgetting_is_least_and_alone(self):
        for dice, web in lot_cases(281, 60, 4):
            best, least = forgetting(web), forgetting_need(web)
            self.same(forgetting(web=web), best)
            self.same(forgetting_need(web=web), least)
            self.same(make_quotient(max(slow_worst(web, best))), least)
            self.same(lets_forgetting(web, best), least)
            self.same(lets_forgetting(web=web, thing=best), least)
            for _ in range(4):
                other = random_spread(dice, size_of(web))
                # Near ones, too: a small part of the other spread mixed in.
                near = load_of_values([
                    (one * 999 + more) / 1000 for one, more in zip(values(best), values(other))
                ])
                for wish in (other, near):
                    if wish == best:
                        continue
                    self.assertGreater(value(worst_need(web, wish)), value(least))
                    self.refuses_paper("least", -1, lets_forgetting, web, wish)

    def test_by_returns_and_by_the_web_backward(self):
        for _, web in lot_cases(282, 60):
            g, least, places = returns_values(web), value(forgetting_need(web)), range(size_of(web))
            self.assertEqual(least, -sum(min(row[j] for row in g) for j in places))
            # The greatest of the needs to it from a place, and the mean of the needs to the shares backward.
            best, back, shares = forgetting(web), backward(web), slow_shares(web)
            units = [unit_load(size_of(web), place) for place in places]
            self.assertEqual(least, max(value(need_by(web, unit, best)) for unit in units))
            self.assertEqual(least, sum(share * value(home_need(back, place)) for place, share in enumerate(shares)))

    def test_home_needs(self):
        for _, web in lot_cases(283, 50):
            shares, size = load_of_values(slow_shares(web)), size_of(web)
            homes = []
            for place in range(size):
                home = home_need(web, place)
                self.same(home_need(web=web, place=place), home)
                self.same(home, need_by(web, unit_load(size, place), shares))
                self.assertEqual(value(home), sum(values(table_of(web, unit_load(size, place), shares))))
                homes.append(value(home))
            back = max(value(home_need(backward(web), place)) for place in range(size))
            self.assertEqual(max(homes), back)

    def test_told(self):
        self.same((forgetting(CIRCLE), worst_places(CIRCLE, ((1, 2, 2), 5))), (((1, 3, 1), 5), (0, 1)))
        self.same(forgetting(ALONE), ((1,), 1))
        self.same(forgetting_need(ALONE), (0, 1))
        self.same(forgetting(TURN), ((1, 1), 2))
        self.same(forgetting_need(TURN), (1, 2))
        self.same(home_need(TURN, 1), (1, 2))
        self.same(worst_need(TURN, ((1, 0), 1)), (1, 1))
        self.same(worst_places(TURN, ((1, 0), 1)), (1,))
        self.same(forgetting(ring_web(4)), ((1, 1, 1, 1), 4))

    def test_each_entry_of_the_list(self):
        for thing in bad_spreads(3):
            self.refuses_paper("spread", -1, lets_forgetting, CIRCLE, thing)
        for thing in (((1, 2, 2), 5), ((1, 0, 0), 1), ((0, 1, 0), 1), ((1, 3, 2), 6), ((1000, 3001, 1000), 5001)):
            self.refuses_paper("least", -1, lets_forgetting, CIRCLE, thing)
        self.same(lets_forgetting(CIRCLE, ((1, 3, 1), 5)), forgetting_need(CIRCLE))

    def test_refusals(self):
        bad = {"wish": bad_spreads(3), "place": bad_places(3)}
        check_refusals(self, worst_need, [("web", CIRCLE), ("wish", ONE)], bad)
        check_refusals(self, worst_places, [("web", CIRCLE), ("wish", ONE)], bad)
        check_refusals(self, home_need, [("web", CIRCLE), ("place", 2)], bad)
        dice = random.Random(284)
        for _ in range(20):
            web = random_lot(dice)
            self.assertIsNone(raised(forgetting, web))
