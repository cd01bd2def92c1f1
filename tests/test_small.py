"""The class Small ([82]), with what it says of lumping, splitting and both tables."""

import random
import unittest

from stayorgo.brinkends import go_end
from stayorgo.coins import coin_end
from stayorgo.cuts import cut_load, cut_web
from stayorgo.deadlines import deadline_of
from stayorgo.lumpings import coarsest, lumped_load, lumped_web
from stayorgo.renamings import renamed_load, renamed_web
from stayorgo.rests import rest_course
from stayorgo.smallclasses import Small
from stayorgo.splits import copies_of, split_load, split_web
from stayorgo.tables import can_stay, table_of
from stayorgo.webclasses import Web
from stayorgo.wishes import is_wish

from tests.support import (
    ALONE, BOARD, CIRCLE, FORK, HALVES, ONE, TURN, WEBS, Same, bad_loads, bad_places, bad_sets, fields_of, load_as_heavy,
    raised, random_load, random_web, size_of, values,
)
from tests.test_courses import random_brinks
from tests.test_cuts import left_sets
from tests.test_lumpings import all_parts, bad_parts, lumpable_web
from tests.test_splits import SPREADS, bad_orders, bad_spreads
from tests.test_tables import CheckNoRoom
from tests.test_webs import WRONG_WEBS

HALF = ((1, 1), 2)


def some_deed(dice, web):
    """A deed that can be done with the web, and the web and the change of loads that it makes."""
    size = size_of(web)
    word = dice.choice(("cut", "lump", "most", "split", "rename"))
    if word == "split" and size > 5:
        word = "rename"
    if word == "cut":
        places = dice.choice(left_sets(web))
        return ("cut", places), cut_web(web, places), lambda load: cut_load(web, places, load)
    if word in ("lump", "most"):
        parts = coarsest(web, dice.choice(all_parts(size)))
        return ("lump", parts), lumped_web(web, parts), lambda load: lumped_load(size, parts, load)
    if word == "split":
        place, spread = dice.randrange(size), dice.choice(SPREADS[:2])
        made = split_web(web, place, spread)
        return ("split", place, spread), made, lambda load: split_load(size, place, spread, load)
    order = tuple(dice.sample(range(size), size))
    return ("rename", order), renamed_web(web, order), lambda load: renamed_load(size, order, load)


def do(small, deed):
    """The deed done by the method for it."""
    if deed[0] == "cut":
        return small.cut_out(*deed[1])
    if deed[0] == "lump":
        return small.lump_by(deed[1])
    if deed[0] == "split":
        return small.split_at(deed[1], spread=deed[2])
    return small.rename_by(deed[1])


def chains(seed, many):
    """Tuples (dice, web, deeds, the web that they make, the changes of loads)."""
    dice = random.Random(seed)
    for turn in range(many):
        web = WEBS[turn % len(WEBS)] if turn % 2 else lumpable_web(dice)
        deeds, now, changes = [], web, []
        for _ in range(dice.randint(0, 4)):
            deed, now, change = some_deed(dice, now)
            deeds.append(deed)
            changes.append(change)
        yield dice, web, tuple(deeds), now, changes


def brought(changes, load):
    for change in changes:
        load = change(load)
    return load


class Deeds(unittest.TestCase, Same):
    def check(self, small, first, now, deeds):
        self.assertIs(type(small), Small)
        self.same((small.first_web, small.now_web, small.deeds), (first, now, deeds))
        self.same(list(small), list(deeds))
        self.same([deed for deed in small], list(deeds))
        self.assertLessEqual({"first_web", "now_web", "deeds"}, set(vars(small)))

    def test_one_behind_the_other(self):
        words = set()
        for _, web, deeds, now, _ in chains(290, 150):
            small = Small(web)
            self.check(small, web, web, ())
            steps = [small]
            for deed in deeds:
                steps.append(do(steps[-1], deed))
                words.add((len(steps), deed[0]))
            self.check(steps[-1], web, now, deeds)
            # The objects ahead are as they were.
            for many, step in enumerate(steps):
                self.same((step.first_web, step.deeds), (web, deeds[:many]))
            self.check(small, web, web, ())
            made = Small.by_deeds(web, deeds)
            self.check(made, web, now, deeds)
            self.check(Small.by_deeds(web=web, deeds=deeds), web, now, deeds)
            self.assertTrue(made == steps[-1])
        self.assertGreaterEqual(len(words), 14)

    def test_each_deed(self):
        small = Small(web=BOARD)
        self.check(small.cut_out(1), BOARD, (((4, 4, 0), (1, 1, 6), (0, 0, 8)), 8), (("cut", (1,)),))
        self.check(small.cut_out(0, 1, 2), BOARD, ALONE, (("cut", (0, 1, 2)),))
        self.check(small.cut_out(), BOARD, BOARD, (("cut", ()),))
        fork = Small(FORK)
        lumped = (((0, 1), (0, 1)), 1)
        self.check(fork.lump_by(((0,), (1, 2))), FORK, lumped, (("lump", ((0,), (1, 2))),))
        self.check(fork.lump_by(parts=((0,), (1, 2)), most=False), FORK, lumped, (("lump", ((0,), (1, 2))),))
        alone = ((0,), (1,), (2,))
        self.check(fork.lump_by(((0, 1), (2,)), most=True), FORK, FORK, (("lump", alone),))
        self.check(fork.lump_by(((0, 1, 2),), most=True), FORK, ALONE, (("lump", ((0, 1, 2),)),))
        split = (((0, 1, 2), (3, 0, 0), (3, 0, 0)), 3)
        self.check(Small(TURN).split_at(1, spread=((1, 2), 3)), TURN, split, (("split", 1, ((1, 2), 3)),))
        self.check(Small(TURN).split_at(place=1, spread=((1, 2), 3)), TURN, split, (("split", 1, ((1, 2), 3)),))
        renamed = (((0, 2, 0), (0, 2, 0), (1, 1, 0)), 2)
        self.check(fork.rename_by((2, 0, 1)), FORK, renamed, (("rename", (2, 0, 1)),))
        self.check(fork.rename_by(order=(2, 0, 1)), FORK, renamed, (("rename", (2, 0, 1)),))
        self.check(fork, FORK, FORK, ())

    def test_deeds_go_by_what_the_web_is_now(self):
        small = Small(BOARD).cut_out(1)
        self.same(fields_of(raised(small.cut_out, 2)), ("NotUsable", ("places", -1)))
        self.check(small.cut_out(1), BOARD, cut_web(BOARD, (1, 2)), (("cut", (1,)), ("cut", (1,))))
        self.same(fields_of(raised(small.rename_by, (0, 1, 2, 3))), ("NotUsable", ("order", -1)))
        self.same(fields_of(raised(small.split_at, 3, spread=HALF)), ("NotUsable", ("place", -1)))
        self.same(fields_of(raised(small.lump_by, ((0, 1, 2, 3),))), ("NotUsable", ("parts", -1)))
        wide = small.split_at(0, spread=HALF).lump_by(copies_of(3, 0, 2))
        self.same(wide.now_web, small.now_web)

    def test_equal(self):
        small = Small(BOARD).cut_out(1)
        self.assertIs(small == Small(BOARD).cut_out(1), True)
        self.assertIs(small != Small(BOARD).cut_out(1), False)
        self.assertTrue(Small(FORK).lump_by(((0, 1, 2),), most=True) == Small(FORK).lump_by(((0, 1, 2),)))
        # The same web now, by other deeds.
        for other in (Small(BOARD), Small(small.now_web), Small(BOARD).cut_out(1).cut_out(),
                      Small(BOARD).cut_out(1).rename_by((0, 1, 2)), Small(FORK), None, True, 0, "", BOARD, small.deeds,
                      (BOARD, small.deeds), [("cut", (1,))], Web(BOARD)):
            self.assertIs(small == other, False)
            self.assertIs(small != other, True)
        self.assertFalse(Small(CIRCLE).cut_out() == Small(TURN).cut_out())

    def test_new_each_time(self):
        small = Small(FORK)
        for made in (small.cut_out(), small.lump_by(((0,), (1,), (2,))), small.rename_by((0, 1, 2))):
            self.assertIsNot(made, small)
            self.same((small.deeds, made.now_web), ((), FORK))


class Loads(unittest.TestCase, Same, CheckNoRoom):
    def test_bring(self):
        for dice, web, deeds, _, changes in chains(291, 150):
            small = Small.by_deeds(web, deeds)
            load = random_load(dice, size_of(web))
            self.same(small.bring(load), brought(changes, load))
            self.same(small.bring(load=load), brought(changes, load))
        small = Small(BOARD).cut_out(1).rename_by((2, 0, 1))
        self.same(small.bring(((1, 2, 0, 0), 4)), ((1, 0, 2), 4))
        self.same(Small(FORK).bring(ONE), ONE)

    def test_both_tables(self):
        told = {True: 0, False: 0}
        for dice, web, deeds, now, changes in chains(292, 300):
            small = Small.by_deeds(web, deeds)
            start, rooms = random_load(dice, size_of(web), 3, 0.6), random_load(dice, size_of(web), 6, 0.3)
            fits = can_stay(web, start, rooms)
            told[fits] += 1
            if not fits:
                self.refuses_room(web, start, rooms, small.both_tables, start, rooms)
                continue
            # If the first table is there the second one is.
            tables = (table_of(web, start, rooms), table_of(now, brought(changes, start), brought(changes, rooms)))
            self.same(small.both_tables(start, rooms), tables)
            self.same(small.both_tables(start=start, rooms=rooms), tables)
        self.assertGreater(min(told.values()), 50)

    def test_lumped_rests_and_deadlines(self):
        told = 0
        dice = random.Random(293)
        for turn in range(150):
            web = lumpable_web(dice)
            size = size_of(web)
            parts = coarsest(web, dice.choice(all_parts(size)))
            start = random_load(dice, size, 3, 0.5)
            wish = load_as_heavy(dice, start)
            if len(parts) == size or not is_wish(web, start, wish):
                continue
            told += 1
            less = lumped_web(web, parts)
            lump = lambda load: lumped_load(size, parts, load)
            self.same(is_wish(less, lump(start), lump(wish)), True)
            for small, great in zip(rest_course(less, lump(start), lump(wish), 4), rest_course(web, start, wish, 4)):
                self.assertTrue(all(one <= other for one, other in zip(values(small), values(lump(great)))))
            deadline = deadline_of(web, start, wish)
            if deadline is not None:
                self.assertLessEqual(deadline_of(less, lump(start), lump(wish)), deadline)
        self.assertGreater(told, 20)

    def test_brinks_and_coins_of_copies(self):
        dice = random.Random(294)
        for _ in range(80):
            web = random_web(dice, 4)
            size, start = size_of(web), random_load(dice, size_of(web))
            place, spread = dice.randrange(size), dice.choice(SPREADS[:3])
            many, made = len(spread[0]), split_web(web, place, spread)
            brinks = random_brinks(dice, size)
            coins = tuple(dice.choice(((1, 1), (1, 2), (2, 3))) for _ in range(size))
            for function, marks in ((go_end, brinks), (coin_end, coins)):
                copied = marks[:place] + (marks[place],) * many + marks[place + 1:]
                if raised(function, web, start, marks) is None:
                    told = tuple(split_load(size, place, spread, load) for load in function(web, start, marks))
                    self.same(function(made, split_load(size, place, spread, start), copied), told)


class Refusals(unittest.TestCase, Same):
    def refuses(self, name, call, *arguments, **named):
        self.same(fields_of(raised(call, *arguments, **named)), ("NotUsable", (name, -1)), (arguments, named))

    def test_web_and_loads(self):
        for web in WRONG_WEBS:
            self.refuses("web", Small, web)
            self.refuses("web", Small, web=web)
            self.refuses("web", Small.by_deeds, web, None)
            self.refuses("web", Small.by_deeds, web=web, deeds=())
        small = Small(BOARD).cut_out(1, 2)
        for load in bad_loads(4) + [((1, 1), 2)]:
            self.refuses("load", small.bring, load)
            self.refuses("load", small.bring, load=load)
            self.refuses("start", small.both_tables, load, None)
            self.refuses("rooms", small.both_tables, ((1, 0, 0, 0), 1), load)

    def test_deeds_of_each_kind(self):
        small = Small(BOARD)
        for places in ((3,), (0, 1, 2, 3), (1, 0), (0, 0), (4,), (-1,), (True,), (None,), ("0",), ((0,),), ([],), (0, None)):
            self.refuses("places", small.cut_out, *places)
        fork = Small(FORK)
        for parts in bad_parts(3) + [((0, 1), (2,))]:
            self.refuses("parts", fork.lump_by, parts)
            self.refuses("parts", fork.lump_by, parts=parts, most=False)
            if parts != ((0, 1), (2,)):
                self.refuses("parts", fork.lump_by, parts, most=True)
        for most in (None, 0, 1, "", "True", (), (True,), [True], 10 ** 59, fork):
            self.refuses("most", fork.lump_by, ((0,), (1, 2)), most=most)
            self.refuses("most", fork.lump_by, None, most=most)
        for place in bad_places(3):
            self.refuses("place", fork.split_at, place, spread=HALF)
            self.refuses("place", fork.split_at, place, spread=None)
        for spread in bad_spreads():
            self.refuses("spread", fork.split_at, 1, spread=spread)
        for order in bad_orders(3):
            self.refuses("order", fork.rename_by, order)
        for call in (lambda: fork.split_at(1, HALF), lambda: fork.lump_by(((0,), (1, 2)), True), lambda: fork.split_at(1),
                     lambda: fork.cut_out(places=(1,))):
            with self.assertRaises(TypeError):
                call()

    def test_deeds(self):
        wrong = [None, True, 0, "", "cut", [], [("cut", (1,))], ("cut", (1,)), (None,), ((),), (("cut",),), (["cut", (1,)],)]
        wrong += [(("cut", (1,), 0),), (("Cut", (1,)),), (("lump", ((0, 1), (2, 3))),), (("most", ((0, 1, 2, 3),)),)]
        wrong += [(("cut", places),) for places in bad_sets(4) + [(3,)]]
        wrong += [(("lump", parts),) for parts in bad_parts(4)]
        wrong += [(("split", place, HALF),) for place in bad_places(4)] + [(("split", 1),), (("split", 1, HALF, 1),)]
        wrong += [(("split", 1, spread),) for spread in bad_spreads()]
        wrong += [(("rename", order),) for order in bad_orders(4)]
        # Each deed has to fit what those ahead of it have made.
        cut = ("cut", (1,))
        wrong += [(cut, ("rename", (0, 1, 2, 3))), (cut, cut, cut, cut), (cut, ("cut", (2,))), (cut, None), (None, cut)]
        for deeds in wrong:
            self.refuses("deeds", Small.by_deeds, BOARD, deeds)
            self.refuses("deeds", Small.by_deeds, web=BOARD, deeds=deeds)
        good = (cut, ("rename", (2, 0, 1)), ("split", 0, HALF), ("lump", ((0, 1), (2,), (3,))))
        self.same(Small.by_deeds(BOARD, good).deeds, good)
        self.same(Small.by_deeds(BOARD, ()).now_web, BOARD)
        self.same(Small.by_deeds(HALVES, (("lump", ((0, 1),)),)).now_web, ALONE)
