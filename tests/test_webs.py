"""Stage 2: the checker of webs, webs made, arrows."""

import random
import unittest
from fractions import Fraction

from stayorgo.arrows import arrows_of, closed_at, closed_lots, fleeting_places, nexts_of, reached_from
from stayorgo.stepping import shares_of
from stayorgo.webchecker import is_web, lets_web
from stayorgo.webmaking import beside, lazily, ring_web, row_of, web_of

from tests.support import (
    ALONE, BOARD, FORK, HALVES, TURN, WEBS, Same, bad_amounts, bad_places, chance, check_refusals, load_of_values,
    make_quotient, random_web, size_of, slow_fleeting, slow_lots,
)

WRONG_WEBS = [
    None, True, 1, "0,1;1,0/1", "", (), [], (1,), ((), 1), (((1,),), 1, 1), [((1,),), 1], ([(1,)], 1), (([1],), 1),
    (((1,),), True), (((True,),), 1), (((1,),), 0), (((2,),), 2), (((1, 0), (0, 1)), "1"), (((1, 0), (1,)), 1),
    (((1, 0), (0, 2)), 1), (((2, -1), (0, 1)), 1), (((2, 0), (0, 2)), 2), ("web", 1), (None, 1), (((1,),), None),
]


class Checker(unittest.TestCase, Same):
    def test_webs_are_let(self):
        for web in WEBS:
            self.same(lets_web(web), len(web[0]))
            self.same(is_web(thing=web), True)
        dice = random.Random(17)
        for _ in range(50):
            web = random_web(dice)
            self.same(lets_web(thing=web), len(web[0]))
        great = tuple(tuple(int(i == j) for j in range(60)) for i in range(60))
        self.same(lets_web((great, 1)), 60)
        self.same(lets_web((((10 ** 58, 1), (0, 10 ** 58 + 1)), 10 ** 58 + 1)), 2)

    def test_other_values_are_no_webs(self):
        for thing in WRONG_WEBS:
            self.same(is_web(thing), False, thing)

    def test_each_entry(self):
        told = [
            ("shape", -1, [None, True, 7, "", "ab", (), [], (1,), (1, 2, 3), [((1,),), 1], (((1,),), 1, 1)]),
            ("bottom", 1, [(((1,),), 0), (((1,),), -1), (((1,),), True), (((1,),), "1"), (((1,),), None),
                           (((1,),), (1,)), (((1,),), [1]), ((), 0), (None, False), ("", None)]),
            ("rows", 0, [((), 1), ([], 1), ([(1,)], 1), (None, 1), ("rows", 1), (1, 1), (True, 1), ("", 1)]),
            ("row", 0, [((1,), 1), (([1],), 1), (((True,),), 1), (((-1,),), 1), ((((1,),),), 1), (((1, 0),), 1),
                        (((),), 1), ((None,), 1), (("1",), 1), (((1, 0, 0), (0, 1)), 1), (((1,), (0, 1)), 1),
                        (((2, -1), (1,)), 1), (((1, None), (1, 0)), 1), ((1,) * 4000, 1)]),
            ("row", 1, [(((1, 0), (1,)), 1), (((1, 0), [0, 1]), 1), (((1, 0), (0, True)), 1), (((1, 0), 1), 1),
                        (((0, 2), (3, -1)), 2)]),
            ("sum", 0, [(((2,),), 1), (((0,),), 1), (((1, 1), (0, 1)), 1), (((1, 1), (1,)), 1), (((0, 2), (2, 2)), 4)]),
            ("sum", 1, [(((1, 0), (1, 1)), 1), (((1, 0), (0, 0)), 1), (((2, 0), (0, 4)), 2)]),
            ("terms", -1, [(((2,),), 2), (((2, 2), (4, 0)), 4), (((3, 0), (0, 3)), 3), (((10 ** 58,),), 10 ** 58)]),
        ]
        for word, at, things in told:
            for thing in things:
                self.refuses_paper(word, at, lets_web, thing)
                self.same(is_web(thing), False, thing)


class Making(unittest.TestCase, Same):
    def test_web_of(self):
        for web in WEBS:
            size = size_of(web)
            rows = tuple(tuple(make_quotient(chance(web, i, j)) for j in range(size)) for i in range(size))
            self.same(web_of(rows), web)
            self.same(web_of(rows=rows), web)
        self.same(web_of((((1, 2), (1, 2)), ((1, 3), (2, 3)))), (((3, 3), (2, 4)), 6))
        self.same(web_of((((1, 1),),)), ALONE)

    def test_web_of_refuses(self):
        half, one, nought = (1, 2), (1, 1), (0, 1)
        wrong = [
            None, True, "", "1/1", (), [], ((),), [[one]], ([one],), (((1, 1), (0, 1)),), ((one,), (one,)), (one,), one,
            ((half,),), (((1, 3),),), (((2, 1),),), ((half, half), (one, one)), ((half, half), (one,)),
            ((half, half), (half, half, nought)), ((half, half), [half, half]), ((half, half), (one, None)),
            (((-1, 1), (2, 1)), (half, half)), ((half, half), ((2, 4), (2, 4))), ((half, half), ((True, 1), nought)),
            ((half, half), (one, (0, 2))),
        ]
        check_refusals(self, web_of, [("rows", ((half, half), (one, nought)))], {"rows": wrong})

    def test_ring_web(self):
        self.same(ring_web(1), ALONE)
        self.same(ring_web(2), TURN)
        self.same(ring_web(size=3), (((0, 1, 0), (0, 0, 1), (1, 0, 0)), 1))
        for size in range(1, 9):
            self.same(lets_web(ring_web(size)), size)
            self.same(arrows_of(ring_web(size)), tuple(sorted((i, (i + 1) % size) for i in range(size))))

    def test_lazily(self):
        dice = random.Random(18)
        for web in WEBS + tuple(random_web(dice) for _ in range(20)):
            size = size_of(web)
            for part in ((0, 1), (1, 1), (1, 2), (1, 3), (2, 7)):
                lazy = lazily(web, part)
                share = Fraction(*part)
                self.same(lets_web(lazy), size)
                for i in range(size):
                    for j in range(size):
                        self.assertEqual(chance(lazy, i, j), (1 - share) * chance(web, i, j) + share * (i == j))
                if part == (1, 1):
                    self.same(closed_lots(lazy), tuple((place,) for place in range(size)))
                else:
                    self.same(closed_lots(lazy), closed_lots(web))
                    for lot in closed_lots(web):
                        self.same(shares_of(lazy, lot), shares_of(web, lot))
            self.same(lazily(web, (0, 1)), web)
        check_refusals(self, lazily, [("web", TURN), ("part", (1, 1))], {"part": bad_amounts() + [(2, 1), (3, 2)]})

    def test_beside(self):
        for web in WEBS:
            for other in WEBS:
                both = beside(web, other)
                size, many = size_of(web), size_of(other)
                self.same(lets_web(both), size + many)
                for i in range(size + many):
                    for j in range(size + many):
                        if i < size and j < size:
                            expected = chance(web, i, j)
                        elif i >= size and j >= size:
                            expected = chance(other, i - size, j - size)
                        else:
                            expected = 0
                        self.assertEqual(chance(both, i, j), expected)
        self.same(beside(TURN, other=ALONE), (((0, 1, 0), (1, 0, 0), (0, 0, 1)), 1))
        check_refusals(self, beside, [("web", TURN), ("other", ALONE)], {"other": WRONG_WEBS})

    def test_row_of(self):
        for web in WEBS:
            for place in range(size_of(web)):
                row = [chance(web, place, j) for j in range(size_of(web))]
                self.same(row_of(web, place), load_of_values(row))
        self.same(row_of(FORK, place=2), ((0, 0, 1), 1))
        check_refusals(self, row_of, [("web", FORK), ("place", 2)], {"place": bad_places(3)})


class Arrows(unittest.TestCase, Same):
    def webs(self):
        dice = random.Random(19)
        return WEBS + tuple(random_web(dice) for _ in range(40))

    def test_arrows_and_what_is_reached(self):
        for web in self.webs():
            size = size_of(web)
            pairs = [(i, j) for i in range(size) for j in range(size) if web[0][i][j] > 0]
            self.same(arrows_of(web), tuple(pairs))
            for place in range(size):
                self.same(nexts_of(web, place), tuple(j for i, j in pairs if i == place))
                reached = {place}
                for _ in range(size):
                    reached = reached | {j for i, j in pairs if i in reached}
                self.same(reached_from(web, place), tuple(sorted(reached)))

    def test_lots_and_fleeting_places(self):
        for web in self.webs():
            lots = slow_lots(web)
            self.same(closed_lots(web), lots)
            self.same(fleeting_places(web), slow_fleeting(web))
            for place in range(size_of(web)):
                here = [lot for lot in lots if place in lot]
                self.same(closed_at(web, place), here[0] if here else None)
                self.assertTrue(any(set(lot) <= set(reached_from(web, place)) for lot in lots))
        self.same(closed_lots(HALVES), ((0, 1),))
        self.same(fleeting_places(HALVES), ())
        self.same(closed_lots(lazily(BOARD, (1, 1))), ((0,), (1,), (2,), (3,)))

    def test_refusals(self):
        for function in (nexts_of, reached_from, closed_at):
            check_refusals(self, function, [("web", BOARD), ("place", 3)], {"place": bad_places(4)})
