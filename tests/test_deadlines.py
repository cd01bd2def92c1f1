"""Stage 13: deadlines, idle rings, lasting places, papers."""

import random
import unittest
from itertools import permutations

from stayorgo.coins import coin_end
from stayorgo.deadlinepapers import deadline_paper, lets_deadline
from stayorgo.deadlines import deadline_of, has_deadline
from stayorgo.lastings import idle_ring, lasting_places, place_deadlines
from stayorgo.loads import no_load, unit_load

from tests.support import (
    BOARD, CIRCLE, FORK, HALVES, LADDER, ONE, THREE_LOTS, TURN, TWO_LOTS, WEBS, Same, bad_loads, bad_wishes,
    check_refusals, fields_of, go_walk, raised, random_load, random_web, size_of, slow_table, subsets, sure_wishes,
    values, wish_cases,
)
from tests.test_tables import CheckNoRoom

BEGIN = ((1, 0, 0, 0), 1)
LAST = ((0, 0, 0, 1), 1)
LATER = ((0, 1, 3), 4)
FAR = 24


def rings_of(web):
    """All rings of the web."""
    return [
        ring for places in subsets(range(size_of(web))) if places for ring in permutations(places)
        if all(web[0][ring[k - 1]][ring[k]] for k in range(len(ring)))
    ]


def slow_idle_rings(web, wish, table):
    return [ring for ring in rings_of(web) if all(not wish[0][i] and table[0][i] for i in ring)]


def slow_lasting(web, wish, table):
    """The places of idle rings, and all that ways from these lead to through places with wish 0."""
    held = {place for ring in slow_idle_rings(web, wish, table) for place in ring}
    ways = [(place,) for place in held]
    while ways:
        way = ways.pop()
        for place in range(size_of(web)):
            if web[0][way[-1]][place] and not wish[0][place] and place not in way:
                held.add(place)
                ways.append(way + (place,))
    return tuple(sorted(held))


def slow_rests(web, start, table):
    gone = go_walk(web, start, table, FAR).gone
    return [[one - other for one, other in zip(values(table), passed)] for passed in gone]


def first_nought(numbers):
    """The first moment with 0, or None."""
    return next((t for t, number in enumerate(numbers) if number == 0), None)


def lasting_wishes(seed, many):
    """Wishes that are the ends of coins, many of which never let stay: often with idle rings."""
    dice = random.Random(seed)
    webs = list(WEBS) + [random_web(dice) for _ in range(15)]
    for turn in range(many):
        web = webs[turn % len(webs)]
        start = random_load(dice, size_of(web))
        coins = tuple(dice.choice(((0, 1), (0, 1), (1, 1), (1, 2))) for _ in range(size_of(web)))
        if raised(coin_end, web, start, coins) is None:
            wish = coin_end(web, start, coins)[0]
            yield web, start, wish, slow_table(web, start, wish)


def near_wishes(seed, many):
    """Wishes whose rests, where they come to 0 at all, do so soon; with the rests and the lasting places."""
    for web, start, wish, table in list(sure_wishes(seed, many)) + list(lasting_wishes(seed, many)):
        rests = slow_rests(web, start, table)
        lasting = slow_lasting(web, wish, table)
        if all(place in lasting or rests[-1][place] == 0 for place in range(size_of(web))):
            yield web, start, wish, table, rests, lasting


class Deadlines(unittest.TestCase, Same, CheckNoRoom):
    def test_deadlines(self):
        told = {True: 0, False: 0}
        for web, start, wish, table, rests, lasting in near_wishes(76, 150):
            first = first_nought([max(rest) for rest in rests])
            rings = slow_idle_rings(web, wish, table)
            told[first is None] += 1
            self.assertEqual(first is None, bool(rings))
            self.same(has_deadline(web, start, wish), not rings)
            self.same(has_deadline(web=web, start=start, wish=wish), not rings)
            self.same(deadline_of(web, start, wish), first)
            self.same(deadline_of(web=web, start=start, wish=wish), first)
            ring = idle_ring(web, start, wish)
            self.same(idle_ring(web=web, start=start, wish=wish), ring)
            self.assertIs(type(ring), tuple if rings else type(None))
            self.assertTrue(ring in rings if rings else ring is None)
            self.same(lasting_places(web, start, wish), lasting)
            self.same(lasting_places(web=web, start=start, wish=wish), lasting)
            places = tuple(first_nought([rest[i] for rest in rests]) for i in range(size_of(web)))
            self.same(place_deadlines(web, start, wish), places)
            self.same(place_deadlines(web=web, start=start, wish=wish), places)
            # Consequences.
            self.assertEqual(first is None, bool(lasting))
            self.assertEqual(tuple(i for i, moment in enumerate(places) if moment is None), lasting)
            if first is not None:
                self.assertEqual(first, max(places))
            self.assertEqual(first == 0, start == wish)
        self.assertGreater(min(told.values()), 15)

    def test_idle_rings_of_all_wishes(self):
        # Where rests come to 0 late, rings, lasting places and whether there is a deadline are told all the same.
        for web, start, wish, table in lasting_wishes(77, 150):
            rings = slow_idle_rings(web, wish, table)
            self.same(has_deadline(web, start, wish), not rings)
            self.same(lasting_places(web, start, wish), slow_lasting(web, wish, table))
            self.assertIn(idle_ring(web, start, wish), rings or [None])

    def test_no_table(self):
        none = 0
        for web, start, wish in wish_cases(78, 90):
            if raised(idle_ring, web, start, wish) is not None:
                none += 1
                self.same(has_deadline(web, start, wish), False)
                for function in (deadline_of, idle_ring, lasting_places, place_deadlines, deadline_paper):
                    self.refuses_room(web, start, wish, function, web, start, wish)
                for thing in (None, ("done", 0), ("ring", (0,)), ("done", None)):
                    self.refuses_room(web, start, wish, lets_deadline, web, start, wish, thing)
        self.assertGreater(none, 10)

    def test_told(self):
        self.same((has_deadline(FORK, ONE, ONE), deadline_of(FORK, ONE, ONE)), (True, 0))
        self.same(place_deadlines(FORK, ONE, ONE), (0, 0, 0))
        self.same(has_deadline(FORK, ONE, ((0, 1, 0), 1)), False)
        self.same((deadline_of(BOARD, BEGIN, LAST), idle_ring(FORK, ONE, LATER)), (None, None))
        self.same(place_deadlines(BOARD, BEGIN, LAST), (None, None, None, 0))
        self.same(lasting_places(FORK, ONE, LATER), ())
        # The wish at place 1 cuts the ring of 0 and 1; that of 1 and 2 is cut, too.
        self.same(has_deadline(BOARD, BEGIN, ((0, 1, 0, 2), 3)), True)
        self.same(has_deadline(HALVES, ((1, 0), 1), ((0, 1), 1)), False)
        self.same(lasting_places(HALVES, ((1, 0), 1), ((0, 1), 1)), (0,))
        self.same(place_deadlines(HALVES, ((1, 0), 1), ((0, 1), 1)), (None, 0))
        # A place to which an idle ring leads lasts, though no ring goes through it; the last one has a wish.
        web = (((1, 1, 0, 0), (0, 0, 2, 0), (0, 0, 0, 2), (0, 0, 0, 2)), 2)
        start, wish = unit_load(4, 0), unit_load(4, 3)
        self.same(lasting_places(web, start, wish), (0, 1, 2))
        self.same(idle_ring(web, start, wish), (0,))
        self.same(lasting_places(web, start, ((0, 0, 1, 1), 2)), (0, 1))
        self.same(place_deadlines(web, start, ((0, 0, 1, 1), 2))[3], 0)

    def test_refusals(self):
        good = [("web", FORK), ("start", ONE), ("wish", LATER)]
        bad = {"start": bad_loads(3), "wish": bad_wishes(3)}
        for function in (has_deadline, deadline_of, idle_ring, lasting_places, place_deadlines, deadline_paper):
            check_refusals(self, function, good, bad)
        check_refusals(self, lets_deadline, good + [("thing", ("done", 2))], bad)
        for function in (deadline_of, idle_ring):
            self.refuses_room(FORK, ONE, ((0, 1, 0), 1), function, FORK, ONE, ((0, 1, 0), 1))


class Papers(unittest.TestCase, Same, CheckNoRoom):
    def test_papers(self):
        for web, start, wish, table, rests, _ in near_wishes(79, 80):
            first = first_nought([max(rest) for rest in rests])
            rings = slow_idle_rings(web, wish, table)
            paper = deadline_paper(web, start, wish)
            self.same(deadline_paper(web=web, start=start, wish=wish), paper)
            if rings:
                self.assertIn(paper, [("ring", ring) for ring in rings])
            else:
                self.same(paper, ("done", first))
            self.same(lets_deadline(web, start, wish, paper), not rings)
            self.same(lets_deadline(web=web, start=start, wish=wish, thing=paper), not rings)
            for many in range(4):
                self.check_done(web, start, wish, many, first)
            for ring in rings_of(web):
                self.check_ring(web, start, wish, table, ring)

    def check_done(self, web, start, wish, many, first):
        thing = ("done", many)
        if many == first:
            self.same(lets_deadline(web, start, wish, thing), True)
        elif first is None or many < first:
            self.refuses_paper("later", 1, lets_deadline, web, start, wish, thing)
        else:
            self.refuses_paper("sooner", 1, lets_deadline, web, start, wish, thing)

    def check_ring(self, web, start, wish, table, ring):
        for k, place in enumerate(ring):
            if wish[0][place] or not table[0][place]:
                word = "wish" if wish[0][place] else "passed"
                self.refuses_paper(word, k, lets_deadline, web, start, wish, ("ring", ring))
                return
        self.same(lets_deadline(web, start, wish, ("ring", ring)), False)

    def test_shapes(self):
        for thing in (None, True, 0, "", "done", "ri", (), ("done",), ("done", 2, 0), ["done", 2], ("Done", 2), (2, "done"),
                      ("rings", (0,)), (None, 2), (True, 2), (("done",), 2), ("ring", (2,), 0), ["ring", (2,)]):
            self.refuses_paper("shape", -1, lets_deadline, FORK, ONE, LATER, thing)

    def test_done(self):
        for thing in (None, True, -1, "2", (), (2,), [2], -10 ** 59, ""):
            self.refuses_paper("many", 1, lets_deadline, FORK, ONE, LATER, ("done", thing))
        for many in (0, 1):
            self.refuses_paper("later", 1, lets_deadline, FORK, ONE, LATER, ("done", many))
        for many in (3, 4, 16, 10 ** 59):
            self.refuses_paper("sooner", 1, lets_deadline, FORK, ONE, LATER, ("done", many))
        self.same(lets_deadline(FORK, ONE, LATER, ("done", 2)), True)
        self.same(lets_deadline(FORK, ONE, ONE, ("done", 0)), True)
        self.refuses_paper("sooner", 1, lets_deadline, FORK, ONE, ONE, ("done", 1))
        for many in (0, 16, 10 ** 59):
            self.refuses_paper("later", 1, lets_deadline, BOARD, BEGIN, LAST, ("done", many))

    def test_rings(self):
        for thing in (None, True, 0, "", "01", (), [0, 1], (0,), (0, 2), (0, 1, 0, 1), (4,), (-1,), (True, 0), (0, True),
                      (0, 1, None), ((0, 1),), (0, None), (2, 3)):
            self.refuses_paper("ring", 1, lets_deadline, BOARD, BEGIN, LAST, ("ring", thing))
        for ring in ((0, 1), (1, 0), (1, 2), (2, 1)):
            self.same(lets_deadline(BOARD, BEGIN, LAST, ("ring", ring)), False)
        self.refuses_paper("wish", 0, lets_deadline, BOARD, BEGIN, LAST, ("ring", (3,)))
        self.refuses_paper("passed", 0, lets_deadline, BOARD, LAST, LAST, ("ring", (0, 1)))
        between = ((0, 1, 0, 2), 3)
        self.refuses_paper("wish", 1, lets_deadline, BOARD, BEGIN, between, ("ring", (0, 1)))
        self.refuses_paper("wish", 0, lets_deadline, BOARD, BEGIN, between, ("ring", (1, 0)))
        # Of a place with a wish that is not passed the wish is told; of two faults the one at the earlier place.
        self.refuses_paper("wish", 0, lets_deadline, CIRCLE, ONE, ONE, ("ring", (0, 1, 2)))
        self.refuses_paper("passed", 0, lets_deadline, CIRCLE, ONE, ONE, ("ring", (1, 2, 0)))
        self.refuses_paper("passed", 0, lets_deadline, CIRCLE, ONE, ONE, ("ring", (2, 1)))
        self.refuses_paper("wish", 1, lets_deadline, TURN, ((1, 0), 1), ((0, 1), 1), ("ring", (0, 1)))

    def test_greater_webs(self):
        for web in (LADDER, TWO_LOTS, THREE_LOTS):
            start = unit_load(5, 0)
            self.same(lets_deadline(web, start, start, ("done", 0)), True)
            self.same(deadline_paper(web, start, start), ("done", 0))
            self.same(deadline_paper(web, no_load(5), no_load(5)), ("done", 0))
        self.same(fields_of(raised(lets_deadline, FORK, None, None, None)), ("NotUsable", ("start", -1)))
