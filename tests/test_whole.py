"""The whole program at once: each function of the interface with usual arguments, and with these bent at any depth."""

import copy
import importlib
import random
import unittest

from stayorgo.arrows import fleeting_places
from stayorgo.brinkcourses import go_by, stay_by
from stayorgo.brinks import go_brinks, stay_brinks
from stayorgo.clockclasses import Clock
from stayorgo.courses import go_course, stay_course
from stayorgo.desk import Desk
from stayorgo.errors import NotUsable, StayError
from stayorgo.gaps import gap_of, gaps_of
from stayorgo.live import LiveHouse
from stayorgo.loads import scaled
from stayorgo.machineclasses import Machine
from stayorgo.morerooms import greatest_share
from stayorgo.mostchecker import lets_most
from stayorgo.mosts import last_end, most_of
from stayorgo.roomclasses import Rooms
from stayorgo.roompapers import lets_room, room_paper
from stayorgo.smallclasses import Small
from stayorgo.tables import can_stay, table_of
from stayorgo.timeclasses import Times
from stayorgo.webchecker import is_web
from stayorgo.webclasses import Web
from stayorgo.webtexts import load_line, read_load, read_web, web_line
from stayorgo.wishclasses import Wish

from tests.support import (
    CIRCLE, FORK, ONE, Same, fields_of, go_first, is_table, load_of_values, make_load, make_quotient, raised, slow_gap,
    slow_hopes, stay_first, value, values,
)
from tests.test_interface import FUNCTIONS, parts_of
from tests.test_walkers import FLIP

HALF = ((0, 1, 1), 2)
LATER = ((0, 1, 3), 4)
WAIT = ((1, 0), (((0, 1),) * 3, ((0, 0),) * 3), 1)
LONE = ((2,), (((1,), (1,), (0,)),), 2)
DAYS = ((ONE, HALF), (((0, 1, 0), 2), ((0, 1, 2), 2)))
BRINKS = ((1, (0, 1)), (1, (1, 2)), (0, (0, 1)))
EVENT = ("room", 0, (1, 2))
UNIT = (0, 1)
# Usual arguments by the names of the parameters.
USUAL = {
    "web": FORK, "size": 3, "load": ONE, "rows": FLIP, "start": ONE, "rooms": HALF, "extra": ((1, 0, 1), 3), "fewer": UNIT,
    "closed": (2,), "barred": (1,), "place": 1, "here": 0, "there": 2, "target": LATER, "allowance": ((2, 1, 0), 1),
    "passes": ((4, 1, 0), 4), "factor": (3, 2), "many": 2, "middle": HALF, "wish": LATER, "rest": ((4, 1, 0), 4),
    "course": (((0, 0, 0), 1), ONE), "brinks": BRINKS, "coins": ((0, 1), (1, 2), (1, 1)), "prices": (ONE, LATER),
    "numbers": ((1, 2), (1, 1)), "timetable": DAYS, "comings": (ONE, LATER), "machine": WAIT, "one": WAIT, "other": LONE,
    "part": (1, 3), "places": (0, 1), "parts": ((0, 1), (2,)), "spread": ((1, 2), 3), "order": (2, 0, 1),
    "walkers": (2, 0), "seats": (1, 1), "way": (0,), "sends": (1, 0), "die": (1, 2), "manner": "go", "marks": BRINKS,
    "dice": (((0, 1), (1, 4)), ((1, 4), (0, 1))), "log": (FORK, (EVENT,)), "event": EVENT, "thing": None, "top": 6,
    "bottom": -4, "quotients": ((1, 2), (0, 1), (1, 3)),
}
SPECIAL = {
    "plus": {"one": (1, 2), "other": (-1, 3)}, "minus": {"one": (1, 2), "other": (-1, 3)},
    "times": {"one": (1, 2), "other": (-1, 3)}, "over": {"one": (1, 2), "other": (-1, 3)},
    "is_less": {"one": (1, 2), "other": (-1, 3)}, "added": {"other": HALF}, "product_of": {"other": HALF},
    "taken": {"other": ((1, 0, 0), 3)}, "is_within": {"other": HALF}, "lesser_of": {"other": HALF},
    "greater_of": {"other": HALF}, "first_above": {"other": HALF}, "web_of": {"rows": (((0, 1), (1, 1)), ((1, 2), (1, 2)))},
    "lazily": {"part": (1, 3)}, "beside": {"other": CIRCLE}, "read_load": {"text": "1,0,2/3"},
    "read_web": {"text": "0,1;1,0/1"}, "with_less": {"rooms": ((1, 1, 2), 2), "fewer": HALF}, "wasted": {"passes": ONE},
    "lumped_web": {"parts": ((0,), (1, 2))}, "filled_back": {"passes": ((0,), 1)},
    "read_timetable": {"text": "1,0/1<1,0/2"}, "read_machine": {"text": "1:0;0;0/1"}, "row_arrow": {"many": 5},
    "read_event": {"text": "come 0 1/2"}, "left_by": {"passes": ONE}, "by_first": {"target": ((0, 1, 1), 2)},
    "with_more": {"extra": ((0, 0, 0), 1)},
    "backward": {"web": CIRCLE}, "returns_of": {"web": CIRCLE}, "need_by": {"web": CIRCLE}, "forgetting": {"web": CIRCLE},
    "forgetting_need": {"web": CIRCLE}, "worst_need": {"web": CIRCLE}, "worst_places": {"web": CIRCLE},
    "home_need": {"web": CIRCLE}, "lets_forgetting": {"web": CIRCLE, "thing": ((1, 3, 1), 5)},
    "lets_web": {"thing": FORK}, "lets_room": {"thing": ("table", ONE)}, "lets_passes": {"thing": ONE},
    "lets_most": {"thing": ((2, 1, 0), 2)}, "lets_deadline": {"thing": ("done", 2)}, "lets_timetable": {"thing": DAYS},
    "lets_machine": {"thing": WAIT}, "lets_walkers": {"thing": ("ends", (0,))},
    "keeps_to": {"course": (((0, 0, 0), 1), ((1, 0, 0), 2))}, "spans": {"allowance": ((2, 2, 2), 1)},
    "coin_word": {"many": 1}, "arrow_by": {"place": 0},
}
TRUSTED = ("web", "size", "load", "rows")


def all_functions():
    """Triples (function, names of its parameters, usual arguments)."""
    for line in FUNCTIONS.strip().split("\n"):
        module, _, rest = line.partition(":")
        for name, signature in parts_of(rest):
            names = [word for word in signature.strip("()").split(", ") if word]
            function = getattr(importlib.import_module("stayorgo." + module), name)
            usual = {**USUAL, **SPECIAL.get(name, {})}
            yield function, names, [usual[word] for word in names]


def is_plain(thing):
    """Whether thing consists of tuples, integers, bools, None and strings."""
    if type(thing) is tuple:
        return all(is_plain(held) for held in thing)
    return thing is None or type(thing) in (int, bool, str)


def bent(thing):
    """The thing with one value in it, at any depth, put into another one that is none of the kind."""
    yield "x"
    yield [thing]
    if thing is not None:
        yield None
    if thing == 1 and type(thing) is int:
        yield True
    if thing == 0 and type(thing) is int:
        yield False
    if type(thing) is int:
        yield str(thing)
        yield (thing,)
    if type(thing) is tuple:
        yield list(thing)
        for k, held in enumerate(thing):
            for other in bent(held):
                yield thing[:k] + (other,) + thing[k + 1:]


def is_held(name, thing):
    """Whether the bent thing is as stated after all: brinks may have None, an empty set of places is one."""
    if name in ("brinks", "marks"):
        return type(thing) is tuple and all(brink is None or brink in BRINKS for brink in thing)
    return False


class Functions(unittest.TestCase, Same):
    def test_by_position_and_by_name_twice_and_nothing_changed(self):
        told = 0
        for function, names, usual in all_functions():
            held = copy.deepcopy(usual)
            told += 1
            if function.__name__ == "replayed":
                self.same(function(*usual).log, function(log=usual[0]).log)
                continue
            first = function(*usual)
            self.assertTrue(is_plain(first), (function.__name__, first))
            self.same(function(**dict(zip(names, usual))), first, function.__name__)
            self.same(function(usual[0], **dict(zip(names[1:], usual[1:]))) if usual else first, first)
            self.same(function(*usual), first, function.__name__)
            self.same(usual, held, function.__name__)
        self.assertEqual(told, 218)

    def test_bent_at_any_depth(self):
        told = 0
        for function, names, usual in all_functions():
            for at, name in enumerate(names):
                trusted = at == 0 and name in TRUSTED and function.__name__ != "web_of"
                if trusted or name == "thing":
                    continue
                for wrong in bent(usual[at]):
                    if name == "text" and type(wrong) is str or is_held(name, wrong):
                        continue
                    arguments = usual[:at] + [wrong] + usual[at + 1:]
                    for call in (lambda: function(*arguments), lambda: function(**dict(zip(names, arguments)))):
                        refusal = raised(call)
                        found = refusal and fields_of(refusal)
                        self.same(found, ("NotUsable", (name, -1)), (function.__name__, arguments))
                    told += 1
        self.assertGreater(told, 5000)

    def test_things_bent_at_any_depth(self):
        """What tells whether any value is of a kind says False, a checker refuses by InvalidPaper."""
        kinds = {
            "is_integer": 3, "is_number": 3, "is_quotient": (1, 2), "is_load": ONE, "is_spread": ONE, "is_set": (0, 2),
            "is_web": FORK, "is_ring": (2,), "is_wish": LATER, "is_course": (((0, 0, 0), 1), ONE), "is_brink": (1, (1, 2)),
            "is_brinks": BRINKS, "is_coins": USUAL["coins"], "is_prices": (ONE, LATER), "is_timetable": DAYS,
            "is_time_course": (((0, 0, 0), 1), ONE), "is_machine": WAIT, "is_parts": ((0, 1), (2,)),
            "is_lumping": ((0,), (1, 2)), "is_order": (2, 0, 1), "is_rows": FLIP, "is_walkers": (2, 0, 1), "is_die": (1, 2),
            "is_event": EVENT, "is_log": (FORK, (EVENT,)),
        }
        told = set()
        for function, names, usual in all_functions():
            name = function.__name__
            if names[-1] != "thing":
                continue
            thing = usual[-1] if name.startswith("lets_") else kinds[name]
            self.assertIsNone(raised(function, *usual[:-1], thing), name)
            if not name.startswith("lets_"):
                self.same(function(*usual[:-1], thing), True, name)
            for wrong in bent(thing):
                if is_held("brinks", wrong) and name == "is_brinks":
                    continue
                if name.startswith("lets_"):
                    self.same(fields_of(raised(function, *usual[:-1], wrong))[0], "InvalidPaper", (name, wrong))
                else:
                    self.same(function(*usual[:-1], wrong), False, (name, wrong))
                told.add(name)
        self.assertEqual(len(told), len(kinds) + 9)

    def test_errors_hold_the_very_objects(self):
        held = ("come", 0, (9, 1))
        house = LiveHouse(FORK)
        for call in (lambda: house.go(held), lambda: house.do_all((held,))):
            self.assertIs(raised(call).event, held)
        many = 10 ** 20
        self.assertIs(raised(house.undo, many).steps, many)
        for call in (lambda: house.go(held), lambda: house.undo(1), lambda: Desk(FORK).hear("x"), lambda: Web(None)):
            self.assertIsInstance(raised(call), StayError)
            self.assertIsInstance(raised(call), ValueError)


class Limits(unittest.TestCase, Same):
    """The limits of [12] met: webs of eight places over sixty, loads with great numbers, sixteen moments."""

    def great_web(self, dice, lots=1):
        """Eight places; with two lots the last three of them are closed."""
        rows = []
        for place in range(8):
            row = [0] * 8
            reached = range(5, 8) if lots == 2 and place > 4 else range(8)
            for _ in range(59):
                row[dice.choice(reached)] += 1
            row[dice.choice(reached)] += 1
            rows.append(tuple(row))
        web = (tuple(rows), 60)
        return web if is_web(web) else self.great_web(dice, lots)

    def great_load(self, dice, top=10 ** 15):
        return make_load([dice.choice((0, dice.randint(1, top))) for _ in range(8)], 10 ** 12)

    def test_tables_most_passes_and_courses(self):
        dice = random.Random(431)
        told = {True: 0, False: 0}
        for turn in range(30):
            web = self.great_web(dice, 1 + turn % 2)
            start, rooms = self.great_load(dice, 10 ** 14), self.great_load(dice)
            fits = can_stay(web, start, rooms)
            told[fits] += 1
            if fits:
                self.assertTrue(is_table(web, values(start), values(rooms), values(table_of(web, start, rooms))))
                self.same(lets_room(web, start, rooms, room_paper(web, start, rooms)), True)
            else:
                refusal = raised(table_of, web, start, rooms)
                gap = gap_of(web, start, rooms, refusal.closed, refusal.barred)
                self.assertGreater(gap[0], 0)
                self.same(lets_room(web, start, rooms, room_paper(web, start, rooms)), False)
            self.same(lets_most(web, start, rooms, most_of(web, start, rooms)), last_end(web, start, rooms))
            for course, slow in ((stay_course, stay_first), (go_course, go_first)):
                told_by = tuple(load_of_values(row) for row in slow(web, start, rooms, 16))
                self.same(course(web, start, rooms, 16), told_by)
            brinks = go_brinks(web, start, rooms, 8)
            self.same(go_by(web, start, brinks, 8), go_course(web, start, rooms, 8))
            brinks = stay_brinks(web, start, rooms, 8)
            self.same(stay_by(web, start, brinks, 8), stay_course(web, start, rooms, 8))
        self.assertGreater(min(told.values()), 3)

    def test_all_hopes_of_five_fleeting_places(self):
        dice = random.Random(432)
        for _ in range(4):
            web = self.great_web(dice, 2)
            self.same(len(fleeting_places(web)), 5)
            start, rooms = self.great_load(dice), self.great_load(dice, 10 ** 14)
            gaps = gaps_of(web, start, rooms)
            self.same(gaps, tuple(pair for pair, hope in slow_hopes(web) if slow_gap(start, rooms, hope) > 0))
            self.same(can_stay(web, start, rooms), gaps == ())
            share = greatest_share(web, start, rooms)
            self.same(can_stay(web, scaled(start, share), rooms), True)
            more = (share[0] * 1000 + 1, share[1] * 1000)
            self.same(can_stay(web, scaled(start, make_quotient(value(more))), rooms), False)

    def test_lines_and_papers_of_great_numbers(self):
        dice = random.Random(433)
        for _ in range(10):
            web, load = self.great_web(dice), self.great_load(dice)
            self.same((read_web(web_line(web)), read_load(load_line(load))), (web, load))


class Objects(unittest.TestCase, Same):
    def made(self):
        """Pairs of two objects made alike, of each class that compares."""
        makers = (
            lambda: Web(FORK), lambda: Wish(FORK, ONE, LATER), lambda: Clock(FORK, ONE, LATER), lambda: Times(FORK, DAYS),
            lambda: Machine(3, WAIT), lambda: Small(FORK).cut_out(0),
        )
        return [(maker(), maker()) for maker in makers]

    def test_equal_to_its_like_alone(self):
        pairs = self.made()
        others = [LiveHouse(FORK), Desk(FORK), Rooms(FORK, ONE, HALF), None, True, 1, "", (), [], FORK, WAIT, DAYS, (FORK,)]
        for k, (one, other) in enumerate(pairs):
            self.assertIs(one == other, True)
            self.assertIs(one != other, False)
            for m, (more, _) in enumerate(pairs):
                self.assertIs(one == more, k == m)
            for more in others:
                self.assertIs(one == more, False)
                self.assertIs(more == one, False)

    def test_objects_in_the_place_of_values(self):
        """No object of the package is a web, a load, a deed, an event, .. of it."""
        objects = [one for one, _ in self.made()] + [LiveHouse(FORK), Desk(FORK), Rooms(FORK, ONE, HALF)]
        for function, names, usual in all_functions():
            for at, name in enumerate(names):
                if at == 0 and name in TRUSTED and function.__name__ != "web_of" or name == "thing":
                    continue
                for held in objects:
                    arguments = usual[:at] + [held] + usual[at + 1:]
                    self.same(fields_of(raised(function, *arguments)), ("NotUsable", (name, -1)), function.__name__)
        for maker, more in ((Web, ()), (Rooms, (ONE, HALF)), (Wish, (ONE, LATER)), (Clock, (ONE, LATER)), (Times, (DAYS,)),
                            (Small, ()), (LiveHouse, ()), (Desk, ()), (Small.by_deeds, ((),))):
            for held in objects:
                self.same(fields_of(raised(maker, held, *more)), ("NotUsable", ("web", -1)))

    def test_what_one_object_does_changes_no_other_one(self):
        dice = random.Random(430)
        one, other, clock, still = LiveHouse(FORK), LiveHouse(FORK), Clock(FORK, ONE, LATER), Clock(FORK, ONE, LATER)
        for _ in range(10):
            one.tried((dice.choice(("come", "room")), dice.randrange(3), (dice.randint(0, 4), 1)))
            clock.tick()
        self.same((other.log, other.tally, still.moment_now), ((FORK, ()), (0, 0, 0), 0))
        self.same(clock.moment_now, 10)

    def test_not_usable_is_refused_before_what_is_missing(self):
        """The errors of parameters come ahead of NoRoom, Endless and the like."""
        for call in (lambda: Wish(FORK, ((0, 1, 0), 1), None), lambda: Rooms(FORK, ONE, None),
                     lambda: Clock(FORK, ((0, 1, 0), 1), [ONE]), lambda: Machine(3, None)):
            self.assertIsInstance(raised(call), NotUsable)
