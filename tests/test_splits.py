"""Splitting and renaming ([77], [78])."""

import random
import unittest
from fractions import Fraction
from itertools import permutations

from stayorgo.courses import go_course, stay_course
from stayorgo.lumpings import lumped_load, lumped_web
from stayorgo.lumpkinds import is_lumping, is_parts
from stayorgo.mosts import last_end, most_of
from stayorgo.ends import first_end
from stayorgo.renamings import is_order, renamed_load, renamed_web, turned_order
from stayorgo.splits import copies_of, split_load, split_web
from stayorgo.stepping import stepped
from stayorgo.tables import can_stay, table_of
from stayorgo.webchecker import lets_web
from stayorgo.webclasses import Web
from stayorgo.webmaking import ring_web

from tests.support import (
    BOARD, FORK, HALVES, ONE, TURN, WEBS, Same, bad_loads, bad_places, chance, check_refusals, load_of_values, random_load,
    random_web, size_of, values,
)

SPREADS = (((1, 1), 2), ((1, 2), 3), ((3, 1, 2), 6), ((1, 10 ** 12 - 1), 10 ** 12), ((1,) * 5, 5))


def bad_spreads():
    """Values that are no spreads of a size of at least 2, 0 nowhere."""
    return bad_loads(2)[:-2] + [
        ((1,), 1), ((), 1), ((1, 0), 1), ((0, 1), 1), ((1, 0, 1), 2), ((1, 1), 1), ((1, 1), 3), ((2, 2), 4), ((1, 1, 1), 2),
        ([1, 1], 2), ((1, True), 2), ((-1, 2), 1), ((1, 1, 0), 2), ((1, 2), 2), (((1, 2), (1, 2)), 1), ((1, 1), 2, 2), 1,
    ]


def bad_orders(size):
    """Values that are no orders of the size, from 2 on."""
    order = tuple(range(size))
    return [
        None, True, 0, "", "01", (), [], list(order), order[:-1], order + (size,), order[1:] + (size,), (0,) * size,
        (-1,) + order[1:], order[:-1] + (True,), (False,) + order[1:], order[:-1] + (None,), order[:-1] + ("1",),
        (order,), tuple((place,) for place in order), order + order, order[1:] + order[1:2], (order, 1), 10 ** 59,
    ]


def splits(seed, many):
    """Tuples (dice, web, place, spread): the first place and the last one, too."""
    dice = random.Random(seed)
    for turn in range(many):
        web = WEBS[turn % len(WEBS)] if turn % 2 else random_web(dice)
        place = dice.choice((0, size_of(web) - 1, dice.randrange(size_of(web))))
        yield dice, web, place, dice.choice(SPREADS)


def divided(load, place, spread):
    """What stands at the copies, by fractions."""
    stands, parts = values(load), values(spread)
    return stands[:place] + [stands[place] * part for part in parts] + stands[place + 1:]


class Splits(unittest.TestCase, Same):
    def test_webs_and_loads(self):
        for dice, web, place, spread in splits(260, 120):
            size, many = size_of(web), len(spread[0])
            parts, made = copies_of(size, place, many), split_web(web, place, spread)
            self.same(split_web(web=web, place=place, spread=spread), made)
            self.same(lets_web(made), size + many - 1)
            shares = [[Fraction(1)] if i != place else values(spread) for i in range(size)]
            for i, part in enumerate(parts):
                for here in part:
                    told = [chance(web, i, j) * share for j in range(size) for share in shares[j]]
                    self.assertEqual([chance(made, here, j) for j in range(size_of(made))], told)
            load = random_load(dice, size)
            told = load_of_values(divided(load, place, spread))
            self.same(split_load(size, place, spread, load), told)
            self.same(split_load(size=size, place=place, spread=spread, load=load), told)

    def test_copies(self):
        for size in range(1, 7):
            for place in range(size):
                for many in (1, 2, 5):
                    parts = copies_of(size, place, many)
                    self.same(copies_of(size=size, place=place, many=many), parts)
                    self.same(is_parts(size + many - 1, parts), True)
                    self.same([len(part) for part in parts], [many if i == place else 1 for i in range(size)])

    def test_copies_lumped_back(self):
        for dice, web, place, spread in splits(261, 80):
            size, made = size_of(web), split_web(web, place, spread)
            parts = copies_of(size, place, len(spread[0]))
            self.same(is_lumping(made, parts), True)
            self.same(lumped_web(made, parts), web)
            load = random_load(dice, size)
            self.same(lumped_load(size_of(made), parts, split_load(size, place, spread, load)), load)

    def test_splits_all_alike(self):
        tables = 0
        for dice, web, place, spread in splits(262, 100):
            size, made = size_of(web), split_web(web, place, spread)
            split = lambda load: split_load(size, place, spread, load)
            start, rooms = random_load(dice, size), random_load(dice, size)
            self.same(stepped(made, split(start)), split(stepped(web, start)))
            self.same(stay_course(made, split(start), split(rooms), 3),
                      tuple(map(split, stay_course(web, start, rooms, 3))))
            self.same(go_course(made, split(start), split(rooms), 3), tuple(map(split, go_course(web, start, rooms, 3))))
            self.same(most_of(made, split(start), split(rooms)), split(most_of(web, start, rooms)))
            self.same(last_end(made, split(start), split(rooms)), split(last_end(web, start, rooms)))
            self.same(can_stay(made, split(start), split(rooms)), can_stay(web, start, rooms))
            if can_stay(web, start, rooms):
                tables += 1
                self.same(table_of(made, split(start), split(rooms)), split(table_of(web, start, rooms)))
                self.same(first_end(made, split(start), split(rooms)), split(first_end(web, start, rooms)))
        self.assertGreater(tables, 20)

    def test_by_hand(self):
        self.same(split_web(TURN, 1, ((1, 2), 3)), (((0, 1, 2), (3, 0, 0), (3, 0, 0)), 3))
        self.same(split_web(TURN, 0, ((1, 2), 3)), (((0, 0, 3), (0, 0, 3), (1, 2, 0)), 3))
        self.same(split_web(FORK, 2, ((1, 1), 2)), (((0, 2, 1, 1), (0, 0, 2, 2), (0, 0, 2, 2), (0, 0, 2, 2)), 4))
        self.same(split_web((((1,),), 1), 0, ((1, 3), 4)), (((1, 3), (1, 3)), 4))
        self.same(split_load(3, 0, ((1, 2), 3), ONE), ((1, 2, 0, 0), 3))
        self.same(split_load(3, 2, ((1, 2), 3), ONE), ((1, 0, 0, 0), 1))
        self.same(split_load(2, 1, ((1, 1), 2), ((1, 2), 3)), ((1, 1, 1), 3))
        self.same(copies_of(3, 1, 2), ((0,), (1, 2), (3,)))
        self.same(copies_of(1, 0, 3), ((0, 1, 2),))
        self.same(copies_of(3, 1, 1), ((0,), (1,), (2,)))
        self.same(copies_of(3, 2, 2), ((0,), (1,), (2, 3)))

    def test_refusals(self):
        bad = {"place": bad_places(3), "spread": bad_spreads(), "load": bad_loads(3)}
        check_refusals(self, split_web, [("web", FORK), ("place", 1), ("spread", ((1, 1), 2))], bad)
        check_refusals(self, split_load, [("size", 3), ("place", 1), ("spread", ((1, 1), 2)), ("load", ONE)], bad)
        bad["many"] = [None, True, 0, -1, "1", (), (1,), [1], -10 ** 59]
        check_refusals(self, copies_of, [("size", 3), ("place", 1), ("many", 2)], bad)


class Renamings(unittest.TestCase, Same):
    def test_orders(self):
        for size in range(1, 5):
            for order in permutations(range(size)):
                self.same(is_order(size, order), True)
                self.same(is_order(size=size, thing=order), True)
                self.same((is_order(size + 1, order), is_order(size, list(order))), (False, False))
        for size in (2, 3, 6):
            for thing in bad_orders(size):
                self.same(is_order(size, thing), False, thing)
        self.same((is_order(60, tuple(range(60))[::-1]), is_order(1, (0,)), is_order(1, (1,))), (True, True, False))
        self.same((is_order(1, Web(HALVES)), is_order(1, (False,))), (False, False))

    def test_place_by_place(self):
        dice = random.Random(263)
        for _ in range(100):
            web = random_web(dice)
            size = size_of(web)
            order = tuple(dice.sample(range(size), size))
            made, load = renamed_web(web, order), random_load(dice, size)
            moved = renamed_load(size, order, load)
            self.same(renamed_web(web=web, order=order), made)
            self.same(renamed_load(size=size, order=order, load=load), moved)
            self.same(lets_web(made), size)
            for i in range(size):
                self.assertEqual(values(moved)[order[i]], values(load)[i])
                for j in range(size):
                    self.assertEqual(chance(made, order[i], order[j]), chance(web, i, j))

    def test_there_and_back(self):
        dice = random.Random(264)
        for _ in range(80):
            web = random_web(dice)
            size = size_of(web)
            order, load = tuple(dice.sample(range(size), size)), random_load(dice, size)
            back = turned_order(size, order)
            self.same(turned_order(size=size, order=order), back)
            self.same(is_order(size, back), True)
            self.same(tuple(back[place] for place in order), tuple(range(size)))
            self.same(turned_order(size, back), order)
            self.same(renamed_web(renamed_web(web, order), back), web)
            self.same(renamed_load(size, back, renamed_load(size, order, load)), load)
            rooms = random_load(dice, size)
            move = lambda held: renamed_load(size, order, held)
            self.same(can_stay(renamed_web(web, order), move(load), move(rooms)), can_stay(web, load, rooms))
            if can_stay(web, load, rooms):
                table = table_of(renamed_web(web, order), move(load), move(rooms))
                self.same(table, move(table_of(web, load, rooms)))

    def test_told(self):
        self.same(renamed_load(3, (2, 0, 1), ((5, 6, 7), 8)), ((6, 7, 5), 8))
        self.same(turned_order(3, (2, 0, 1)), (1, 2, 0))
        self.same(renamed_web(FORK, (2, 0, 1)), (((0, 2, 0), (0, 2, 0), (1, 1, 0)), 2))
        self.same(renamed_web(ring_web(8), (1, 2, 3, 4, 5, 6, 7, 0)), ring_web(8))
        self.same(renamed_web(BOARD, (0, 1, 2, 3)), BOARD)

    def test_refusals(self):
        bad = {"order": bad_orders(3), "load": bad_loads(3)}
        check_refusals(self, renamed_web, [("web", FORK), ("order", (2, 0, 1))], bad)
        check_refusals(self, renamed_load, [("size", 3), ("order", (2, 0, 1)), ("load", ONE)], bad)
        check_refusals(self, turned_order, [("size", 3), ("order", (2, 0, 1))], bad)
