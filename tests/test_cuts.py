"""Places cut out ([73], [74])."""

import random
import unittest
from fractions import Fraction

from stayorgo.arrows import closed_lots
from stayorgo.cuts import cut_load, cut_web, filled_back
from stayorgo.ends import first_end
from stayorgo.loads import no_load
from stayorgo.tables import can_stay, table_of
from stayorgo.webchecker import lets_web
from stayorgo.webmaking import ring_web

from tests.support import (
    BOARD, CIRCLE, FORK, LADDER, ONE, TWO_LOTS, WEBS, Same, bad_loads, bad_sets, chance, check_refusals, fields_of,
    load_of_values, raised, random_load, random_web, size_of, slow_lots, solve, step_values, subsets, values,
)


def left_sets(web):
    """All sets of places that hold no closed lot, by trying all sets."""
    return [
        places for places in subsets(range(size_of(web)))
        if not any(set(lot) <= set(places) for lot in slow_lots(web))
    ]


def others_of(web, places):
    return [place for place in range(size_of(web)) if place not in places]


def first_chances(web, places):
    """For each of places, and each other place, the chance to be there first of all others."""
    matrix = [[(i == j) - chance(web, i, j) for j in places] for i in places]
    return {
        j: dict(zip(places, solve(matrix, [chance(web, i, j) for i in places]))) for j in others_of(web, places)
    }


def slow_cut(web, places):
    firsts = first_chances(web, places)
    others = others_of(web, places)
    return [
        [chance(web, i, j) + sum(chance(web, i, k) * firsts[j][k] for k in places) for j in others] for i in others
    ]


def web_of_values(rows):
    loads = [load_of_values([Fraction(number) for number in row]) for row in rows]
    bottom = 1
    for _, under in loads:
        while bottom % under:
            bottom += 1
    return (tuple(tuple(top * (bottom // under) for top in tops) for tops, under in loads), bottom)


def cases(seed, many, largest=5):
    dice = random.Random(seed)
    webs = [web for web in WEBS if size_of(web) <= largest] + [random_web(dice, largest) for _ in range(25)]
    for turn in range(many):
        web = webs[turn % len(webs)]
        yield dice, web, dice.choice(left_sets(web))


class Cuts(unittest.TestCase, Same):
    def test_all_chances(self):
        for web in WEBS:
            for places in left_sets(web):
                if len(places) <= 3:
                    self.check(web, places)
        for _, web, places in cases(240, 100):
            self.check(web, places)

    def check(self, web, places):
        made = cut_web(web, places)
        rows = slow_cut(web, places)
        self.assertEqual([[chance(made, i, j) for j in range(len(rows))] for i in range(len(rows))], rows)
        self.same(lets_web(made), len(rows))
        self.same(cut_web(web=web, places=places), made)
        others = others_of(web, places)
        lots = [tuple(others.index(place) for place in lot if place not in places) for lot in slow_lots(web)]
        self.same(closed_lots(made), tuple(sorted(lots)))

    def test_loads(self):
        for dice, web, places in cases(241, 120):
            start = random_load(dice, size_of(web))
            firsts = first_chances(web, places)
            stands = values(start)
            told = [stands[j] + sum(stands[k] * firsts[j][k] for k in places) for j in others_of(web, places)]
            self.same(cut_load(web, places, start), load_of_values(told))
            self.same(cut_load(web=web, places=places, start=start), load_of_values(told))

    def test_no_places(self):
        dice = random.Random(242)
        for web in WEBS:
            start, passes = random_load(dice, size_of(web)), random_load(dice, size_of(web))
            self.same(cut_web(web, ()), web)
            self.same(cut_load(web, (), start), start)
            self.same(filled_back(web, (), start, passes), passes)

    def test_two_goes(self):
        told = 0
        for dice, web, places in cases(243, 120):
            if len(places) < 2:
                continue
            told += 1
            ahead = tuple(sorted(dice.sample(places, dice.randint(1, len(places) - 1))))
            others = others_of(web, ahead)
            then = tuple(others.index(place) for place in places if place not in ahead)
            half = cut_web(web, ahead)
            self.same(cut_web(half, then), cut_web(web, places))
            start = random_load(dice, size_of(web))
            self.same(cut_load(half, then, cut_load(web, ahead, start)), cut_load(web, places, start))
            passes = random_load(dice, size_of(web) - len(places))
            back = filled_back(half, then, cut_load(web, ahead, start), passes)
            self.same(filled_back(web, ahead, start, back), filled_back(web, places, start, passes))
        self.assertGreater(told, 30)

    def test_filled_back(self):
        for dice, web, places in cases(244, 120):
            start = random_load(dice, size_of(web))
            passes = random_load(dice, size_of(web) - len(places))
            made = filled_back(web, places, start, passes)
            self.same(filled_back(web=web, places=places, start=start, passes=passes), made)
            numbers = values(made)
            self.same(load_of_values([numbers[j] for j in others_of(web, places)]), passes)
            comes = [one + other for one, other in zip(values(start), step_values(web, numbers))]
            for place in places:
                self.assertEqual(numbers[place], comes[place])

    def test_tables_and_first_ends(self):
        told = {True: 0, False: 0}
        for dice, web, places in cases(245, 300):
            start = random_load(dice, size_of(web))
            rooms = load_of_values([
                Fraction(0) if i in places else 2 * one for i, one in enumerate(values(random_load(dice, size_of(web))))
            ])
            less, fewer, room = cut_web(web, places), cut_load(web, places, start), cut_load(web, places, rooms)
            others = others_of(web, places)
            self.same(room, load_of_values([values(rooms)[j] for j in others]))
            fits = can_stay(web, start, rooms)
            told[fits] += 1
            self.same(can_stay(less, fewer, room), fits)
            if not fits:
                continue
            self.same(filled_back(web, places, start, table_of(less, fewer, room)), table_of(web, start, rooms))
            end, small = values(first_end(web, start, rooms)), values(first_end(less, fewer, room))
            self.assertEqual([end[j] for j in others], small)
            self.assertTrue(all(end[place] == 0 for place in places))
        self.assertGreater(min(told.values()), 60)

    def test_told(self):
        self.same(cut_web(BOARD, (1,)), (((4, 4, 0), (1, 1, 6), (0, 0, 8)), 8))
        begin = ((1, 0, 0, 0), 1)
        self.same(filled_back(BOARD, (1,), begin, ((7, 4, 0), 3)), ((7, 8, 4, 0), 3))
        self.same(cut_web(BOARD, (0, 1, 2)), (((1,),), 1))
        self.same(cut_load(BOARD, (0, 1, 2), ((1, 2, 3, 4), 5)), ((2,), 1))
        self.same(filled_back(BOARD, (0, 1, 2), begin, ((0,), 1)), ((7, 8, 4, 0), 3))
        self.same(cut_web(CIRCLE, (0, 1)), (((1,),), 1))
        self.same(cut_web(CIRCLE, (2,)), (((0, 2), (1, 1)), 2))
        self.same(cut_web(ring_web(8), (1, 2, 5, 7)), ring_web(4))
        self.same(cut_load(ring_web(8), (1, 2, 5, 7), ((1,) * 8, 1)), ((2, 3, 1, 2), 1))
        self.same(cut_load(FORK, (0,), ONE), ((1, 1), 2))
        self.same(cut_web(LADDER, (0,)), (((1, 2, 0, 0), (1, 0, 1, 1), (0, 0, 0, 3), (0, 0, 0, 3)), 3))
        self.same(cut_web(TWO_LOTS, (0, 1, 4)), (((1, 0), (0, 1)), 1))

    def test_greatest(self):
        rows = tuple(tuple(8 if i != j else 4 for j in range(8)) for i in range(8))
        web = (tuple(tuple(number // 4 for number in row) for row in rows), 15)
        for places in ((0, 1, 2, 3, 4, 5, 6), (1, 3, 5, 7), (2,)):
            self.check(web, places)
        start = (tuple(range(1, 9)), 10 ** 12)
        firsts = first_chances(web, (0, 7))
        told = [values(start)[j] + sum(values(start)[k] * firsts[j][k] for k in (0, 7)) for j in range(1, 7)]
        self.same(cut_load(web, (0, 7), start), load_of_values(told))

    def test_refusals(self):
        wrong = bad_sets(4) + [(3,), (0, 3), (0, 1, 2, 3), (1, 0), [0, 1]]
        good = [("web", BOARD), ("places", (0, 1)), ("start", ((1, 0, 0, 0), 1)), ("passes", ((1, 0), 1))]
        bad = {"places": wrong, "start": bad_loads(4), "passes": bad_loads(2) + [no_load(4), no_load(3)]}
        check_refusals(self, cut_web, good[:2], bad)
        check_refusals(self, cut_load, good[:3], bad)
        check_refusals(self, filled_back, good, bad)
        for web, places in ((CIRCLE, (0, 1, 2)), (TWO_LOTS, (2,)), (TWO_LOTS, (0, 3, 4)), (FORK, (1, 2))):
            for call in (lambda: cut_web(web, places), lambda: cut_load(web, places, None)):
                self.same(fields_of(raised(call)), ("NotUsable", ("places", -1)))
