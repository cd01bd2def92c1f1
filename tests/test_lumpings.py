"""Parts, lumpings, lumped webs and loads ([75], [76])."""

import random
import unittest
from fractions import Fraction

from stayorgo.courses import go_course, stay_course
from stayorgo.lumpings import coarsest, lumped_load, lumped_web
from stayorgo.lumpkinds import first_unlike, is_lumping, is_parts
from stayorgo.splits import copies_of, split_web
from stayorgo.stepping import stepped
from stayorgo.tables import can_stay, table_of
from stayorgo.webchecker import lets_web
from stayorgo.webclasses import Web
from stayorgo.webmaking import ring_web

from tests.support import (
    BOARD, FORK, HALVES, TWO_LOTS, WEBS, Same, bad_loads, chance, check_refusals, load_of_values, random_load, random_web,
    size_of, values,
)


def all_parts(size):
    """All parts of a size, by putting each place into one of the parts or into one of its own."""
    held = [[]]
    for place in range(size):
        held = [
            parts[:k] + [parts[k] + (place,)] + parts[k + 1:] if k < len(parts) else parts + [(place,)]
            for parts in held for k in range(len(parts) + 1)
        ]
    return [tuple(sorted(parts)) for parts in held]


def into(web, place, part):
    return sum((chance(web, place, j) for j in part), Fraction(0))


def slow_unlike(web, parts):
    """All quadruples that show that the parts are no lumping, ascending."""
    return sorted(
        (p, part[0], j, q) for p, part in enumerate(parts) for j in part[1:] for q, other in enumerate(parts)
        if into(web, part[0], other) != into(web, j, other)
    )


def lumpable_web(dice):
    """A web with a place or two split into copies, then bent now and then."""
    web = random_web(dice, 3)
    for _ in range(dice.randint(1, 2)):
        spread = dice.choice((((1, 1), 2), ((1, 2), 3), ((1, 1, 1), 3)))
        web = split_web(web, dice.randrange(size_of(web)), spread)
        if size_of(web) > 4:
            break
    return web


def bad_parts(size):
    """Values that are no parts of the size, from 3 on."""
    alone = tuple((place,) for place in range(size))
    last = size - 1
    return [
        None, True, 0, "", "012", (), [], list(alone), alone[:-1], alone[1:], alone[::-1], alone + ((),), ((),) + alone,
        alone + ((size,),), alone + (alone[-1],), alone[:-1] + ((last, size),), alone[:-1] + (last,), (0,) * size,
        tuple(range(size)), alone[:-1] + ([last],), alone[:-1] + ((True,),), alone[:-1] + ((None,),),
        alone[:-1] + ((last, last),), ((1, 0),) + alone[2:], ((0, 1),) + alone[1:], alone[1:] + alone[:1],
        ((False,),) + alone[1:], alone[:-1] + (("2",),), alone[:-1] + ((-1,),), ((0, last), (last,)),
    ]


class Kinds(unittest.TestCase, Same):
    def test_parts(self):
        for size in range(1, 6):
            found = all_parts(size)
            self.assertEqual(len(set(found)), (1, 2, 5, 15, 52)[size - 1])
            for parts in found:
                self.same(is_parts(size, parts), True)
                self.same(is_parts(size=size, thing=parts), True)
                self.same((is_parts(size + 1, parts), is_parts(size + 7, parts)), (False, False))
        self.same(is_parts(60, (tuple(range(60)),)), True)
        self.same(is_parts(60, tuple((place,) for place in range(60))), True)

    def test_near_parts(self):
        for size in (3, 4, 6):
            for thing in bad_parts(size):
                self.same(is_parts(size, thing), False, thing)
        for thing in (((0,), (0,)), ((0, 2),), ((2,),), ((1,), (0,)), ((0, 1), ()), ((), (0, 1)), Web(HALVES), 10 ** 59):
            self.same(is_parts(2, thing), False)

    def test_lumpings_and_the_first_unlike(self):
        dice = random.Random(250)
        told = {True: 0, False: 0}
        for web in [web for web in WEBS if size_of(web) < 5] + [lumpable_web(dice) for _ in range(15)]:
            for parts in all_parts(size_of(web)):
                unlike = slow_unlike(web, parts)
                self.same(first_unlike(web, parts), unlike[0] if unlike else None)
                self.same(first_unlike(web=web, parts=parts), unlike[0] if unlike else None)
                self.same(is_lumping(web, parts), not unlike)
                self.same(is_lumping(web=web, thing=parts), not unlike)
                told[not unlike] += len(parts) not in (1, size_of(web))
        self.assertGreater(min(told.values()), 20)

    def test_told(self):
        self.same(first_unlike(FORK, ((0, 1), (2,))), (0, 0, 1, 0))
        self.same(first_unlike(FORK, ((0,), (1, 2))), None)
        self.same(first_unlike(BOARD, ((0, 2), (1,), (3,))), (0, 0, 2, 1))
        self.same(first_unlike(BOARD, ((0, 1, 2), (3,))), (0, 0, 2, 0))
        self.same(first_unlike(ring_web(6), ((0, 2, 4), (1, 3, 5))), None)
        self.same(first_unlike(ring_web(6), ((0,), (1, 3, 5), (2, 4))), (1, 1, 5, 0))
        self.same(first_unlike(ring_web(5), ((0,), (1, 2, 3, 4))), (1, 1, 4, 0))
        for thing in bad_parts(3):
            self.same(is_lumping(FORK, thing), False)

    def test_refusals(self):
        check_refusals(self, first_unlike, [("web", FORK), ("parts", ((0, 1), (2,)))], {"parts": bad_parts(3)})


class Lumpings(unittest.TestCase, Same):
    def lumpings(self, seed, many):
        dice = random.Random(seed)
        for turn in range(many):
            web = lumpable_web(dice) if turn % 2 else WEBS[turn // 2 % len(WEBS)]
            found = [parts for parts in all_parts(size_of(web)) if not slow_unlike(web, parts)]
            yield dice, web, dice.choice(found)

    def test_webs_by_sums(self):
        for _, web, parts in self.lumpings(251, 60):
            made = lumped_web(web, parts)
            self.same(lets_web(made), len(parts))
            self.same(lumped_web(web=web, parts=parts), made)
            for p, part in enumerate(parts):
                for place in part:
                    self.assertEqual([chance(made, p, q) for q in range(len(parts))],
                                     [into(web, place, other) for other in parts])

    def test_loads_by_sums(self):
        dice = random.Random(252)
        for _ in range(80):
            size = dice.randint(1, 6)
            parts, load = dice.choice(all_parts(size)), random_load(dice, size)
            told = load_of_values([sum((values(load)[i] for i in part), Fraction(0)) for part in parts])
            self.same(lumped_load(size, parts, load), told)
            self.same(lumped_load(size=size, parts=parts, load=load), told)
        self.same(lumped_load(3, ((0, 2), (1,)), ((1, 2, 3), 4)), ((2, 1), 2))
        self.same(lumped_load(3, ((0, 1, 2),), ((1, 2, 3), 6)), ((1,), 1))

    def test_coarsest_by_trying_all_parts(self):
        dice = random.Random(253)
        told = set()
        for web in [web for web in WEBS if size_of(web) <= 4] + [lumpable_web(dice) for _ in range(12)]:
            size = size_of(web)
            lumpings = [parts for parts in all_parts(size) if not slow_unlike(web, parts)]
            for parts in dice.sample(all_parts(size), min(15, len(all_parts(size)))):
                within = [
                    held for held in lumpings if all(any(set(small) <= set(part) for part in parts) for small in held)
                ]
                fewest = min(len(held) for held in within)
                found = [held for held in within if len(held) == fewest]
                self.assertEqual(len(found), 1)
                self.same(coarsest(web, parts), found[0])
                self.same(coarsest(web=web, parts=parts), found[0])
                told.add((len(parts) == fewest, fewest == size))
        self.assertEqual(len(told), 4)

    def test_coarsest_told(self):
        self.same(coarsest(FORK, ((0, 1), (2,))), ((0,), (1,), (2,)))
        self.same(coarsest(FORK, ((0, 1, 2),)), ((0, 1, 2),))
        self.same(coarsest(BOARD, ((0, 1, 2), (3,))), ((0,), (1,), (2,), (3,)))
        self.same(coarsest(ring_web(8), ((0, 4), (1, 2, 3, 5, 6, 7))), ((0, 4), (1, 5), (2, 6), (3, 7)))
        self.same(coarsest(ring_web(8), ((0,), tuple(range(1, 8)))), tuple((place,) for place in range(8)))
        self.same(coarsest(TWO_LOTS, ((0, 1), (2, 3, 4))), ((0, 1), (2, 3, 4)))
        self.same(coarsest(ring_web(6), ((0, 3), (1, 2, 4, 5))), ((0, 3), (1, 4), (2, 5)))

    def test_told(self):
        self.same(lumped_web(ring_web(4), ((0, 2), (1, 3))), (((0, 1), (1, 0)), 1))
        self.same(lumped_web(FORK, ((0, 1, 2),)), (((1,),), 1))
        self.same(lumped_web(FORK, ((0,), (1, 2))), (((0, 1), (0, 1)), 1))
        self.same(lumped_web(split_web(FORK, 1, ((1, 2), 3)), copies_of(3, 1, 2)), FORK)

    def test_steps_tables_and_passes(self):
        tables = 0
        for dice, web, parts in self.lumpings(254, 80):
            size, less = size_of(web), lumped_web(web, parts)
            start, rooms = random_load(dice, size), random_load(dice, size)
            lump = lambda load: lumped_load(size, parts, load)
            self.same(stepped(less, lump(start)), lump(stepped(web, start)))
            for one, other in zip(stay_course(less, lump(start), lump(rooms), 4), stay_course(web, start, rooms, 4)):
                self.assertTrue(all(a <= b for a, b in zip(values(one), values(lump(other)))))
            for one, other in zip(go_course(less, lump(start), lump(rooms), 4), go_course(web, start, rooms, 4)):
                self.assertTrue(all(a >= b for a, b in zip(values(one), values(lump(other)))))
            if can_stay(web, start, rooms):
                tables += 1
                table, small = lump(table_of(web, start, rooms)), table_of(less, lump(start), lump(rooms))
                self.assertTrue(all(a <= b for a, b in zip(values(small), values(table))))
        self.assertGreater(tables, 15)

    def test_refusals(self):
        wrong = bad_parts(3)
        check_refusals(self, lumped_web, [("web", FORK), ("parts", ((0,), (1, 2)))], {"parts": wrong + [((0, 1), (2,))]})
        check_refusals(self, coarsest, [("web", FORK), ("parts", ((0, 1), (2,)))], {"parts": wrong})
        good = [("size", 3), ("parts", ((0, 1), (2,))), ("load", ((1, 0, 0), 1))]
        check_refusals(self, lumped_load, good, {"parts": wrong, "load": bad_loads(3)})
