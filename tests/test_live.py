"""Events, live houses, logs replayed ([88] to [90]), and what [92] says of them."""

import random
import unittest
from fractions import Fraction
from itertools import permutations

from stayorgo.ends import first_end
from stayorgo.errors import InvalidEvent
from stayorgo.live import LiveHouse
from stayorgo.liveevents import is_event, is_log
from stayorgo.loads import no_load, unit_load
from stayorgo.replaying import replayed
from stayorgo.tables import table_of
from stayorgo.webclasses import Web

from tests.support import (
    BOARD, FORK, HALVES, TURN, WEBS, Same, bad_amounts, bad_numbers, bad_places, fields_of, load_of_values, make_quotient,
    raised, random_web, size_of, slow_end, slow_table, step_values, values,
)
from tests.test_webs import WRONG_WEBS

GOOD = (("room", 1, (1, 2)), ("room", 2, (3, 4)), ("come", 0, (1, 1)))
NAMES = ("held_now", "rooms_now", "passed_now", "came_now", "left_now")


def bad_events(size):
    """Values that are no events of the size."""
    fine = ("come", 0, (1, 2))
    return [
        None, True, 0, "", "come 0 1/2", (), [], list(fine), fine[:2], fine + (0,), ("Come", 0, (1, 2)), ("", 0, (1, 2)),
        (True, 0, (1, 2)), (None, 0, (1, 2)), (("come",), 0, (1, 2)), (["come"], 0, (1, 2)), ("go", 0, (1, 2)),
        ("undo", 0, (1, 2)), ("rooms", 0, (1, 2)), (Web(TURN), 0, (1, 2)), fine[::-1],
    ] + [("room", place, (1, 2)) for place in bad_places(size)] + [("leave", 0, amount) for amount in bad_amounts()]


class Slow:
    """A live house by the words of [89], on fractions; events tells those that happened."""

    def __init__(self, web):
        self.web, self.events, self.refused, self.undone = web, [], 0, 0

    def loads_after(self, events):
        size = size_of(self.web)
        held, rooms, passed, came, left = ([Fraction(0)] * size for _ in range(5))
        for word, place, (top, bottom) in events:
            amount = Fraction(top, bottom)
            if word == "leave":
                if held[place] < amount:
                    return "held"
                held[place] -= amount
                left[place] += amount
                continue
            if word == "come":
                held[place] += amount
                came[place] += amount
            else:
                rooms[place] = amount
            table = slow_table(self.web, load_of_values(held), load_of_values(rooms))
            if table is None:
                return "gap"
            held = values(slow_end(self.web, load_of_values(held), table))
            passed = [one + more for one, more in zip(passed, values(table))]
        return tuple(load_of_values(numbers) for numbers in (held, rooms, passed, came, left))

    def reason_for(self, event):
        found = self.loads_after(self.events + [event])
        return found if isinstance(found, str) else None

    def let(self, event):
        reason = self.reason_for(event)
        if reason is None:
            self.events.append(event)
        else:
            self.refused += 1
        return reason

    def undo(self, many):
        if many > len(self.events):
            return False
        self.events = self.events[:len(self.events) - many]
        self.undone += many
        return True


def random_event(dice, size, most=4):
    return (
        dice.choice(("come", "come", "room", "room", "room", "leave")), dice.randrange(size),
        make_quotient(Fraction(dice.randint(0, most), dice.randint(1, 4))),
    )


def told_by(house):
    return tuple(getattr(house, name) for name in NAMES)


class Events(unittest.TestCase, Same):
    def test_events(self):
        for word in ("come", "room", "leave"):
            for size in (1, 3, 8):
                for place in (0, size - 1):
                    for amount in ((0, 1), (1, 2), (5, 3), (10 ** 12, 7)):
                        self.same(is_event(size, (word, place, amount)), True)
                        self.same(is_event(size=size, thing=(word, place, amount)), True)
                        self.same(is_event(size, (word, size, amount)), False)
        for size in (1, 3):
            for thing in bad_events(size):
                self.same(is_event(size, thing), False, thing)

    def test_logs(self):
        for events in ((), GOOD, (("leave", 2, (9, 1)), ("come", 0, (7, 2)))):
            self.same(is_log((FORK, events)), True)
            self.same(is_log(thing=(FORK, events)), True)
            self.same(is_log([FORK, events]), False)
            self.same(is_log((FORK, events, ())), False)
        self.same(is_log((TURN, GOOD)), False)
        self.same(is_log((TURN, GOOD[:1])), True)
        for web in WRONG_WEBS:
            self.same(is_log((web, ())), False)
        for event in bad_events(3):
            self.same(is_log((FORK, (event,))), False)
            self.same(is_log((FORK, GOOD + (event,))), False)
        for thing in (None, True, 0, "", (), (FORK,), FORK, (GOOD, FORK), (FORK, None), (FORK, list(GOOD)), (FORK, GOOD[0]),
                      (FORK, "come"), (Web(FORK), ()), LiveHouse(FORK), LiveHouse(FORK).log + ((),), 10 ** 59, (FORK, 0)):
            self.same(is_log(thing), False, thing)


class Houses(unittest.TestCase, Same):
    def check(self, house, slow):
        self.same(told_by(house), slow.loads_after(slow.events))
        self.same(house.log, (slow.web, tuple(slow.events)))
        self.same(house.tally, (len(slow.events), slow.refused, slow.undone))

    def test_new(self):
        for web in WEBS:
            for house in (LiveHouse(web), LiveHouse(web=web)):
                self.same(told_by(house), (no_load(size_of(web)),) * 5)
                self.same((house.log, house.tally), ((web, ()), (0, 0, 0)))

    def door(self, dice, house, event):
        """Lets the event happen by one of the doors; the reason for which it is refused, or None."""
        word, place, amount = event
        by_word = {"come": house.come, "room": house.set_room, "leave": house.leave}[word]
        calls = [
            lambda: by_word(place, amount), lambda: by_word(place=place, amount=amount), lambda: house.go(event),
            lambda: house.go(event=event), lambda: house.do_all((event,)), lambda: house.do_all(events=(event,)),
            lambda: house.tried(event), lambda: house.tried(event=event),
        ]
        k = dice.randrange(len(calls))
        told = raised(calls[k])
        if k >= 6:
            return None, k
        if told is None:
            return None, k
        self.assertIsInstance(told, InvalidEvent)
        self.same(told.event, event)
        if k in (2, 3, 4, 5):
            self.assertIs(told.event, event)
        return told.reason, k

    def test_each_event_by_each_door(self):
        dice = random.Random(330)
        doors, reasons = set(), {}
        for turn in range(60):
            web = WEBS[turn % len(WEBS)] if turn % 3 else random_web(dice, 4)
            house, slow = LiveHouse(web), Slow(web)
            for _ in range(dice.randint(4, 14)):
                if dice.random() < 0.15:
                    many = dice.choice((0, 1, 2, len(slow.events), len(slow.events) + 1))
                    refusal = raised(house.undo, many)
                    self.same(refusal and fields_of(refusal), None if slow.undo(many) else ("NothingToUndo", (many,)))
                    self.check(house, slow)
                    continue
                event = random_event(dice, size_of(web))
                reason = slow.reason_for(event)
                before = told_by(house), house.log, house.tally
                self.same(house.refusal_of(event), reason)
                self.same(house.refusal_of(event=event), reason)
                self.same((told_by(house), house.log, house.tally), before)
                slow.let(event)
                found, k = self.door(dice, house, event)
                if k < 6:
                    self.same(found, reason)
                doors.add((k, reason))
                reasons[reason] = reasons.get(reason, 0) + 1
                self.check(house, slow)
        self.assertEqual(set(reasons), {None, "gap", "held"})
        self.assertEqual(len(doors), 24)

    def test_words_of_the_document(self):
        house = LiveHouse(FORK)
        self.assertIsNone(house.do_all(GOOD))
        self.assertIsNone(house.leave(2, (1, 4)))
        self.same((house.held_now, house.passed_now, house.tried(("come", 0, (1, 1)))),
                  (((0, 2, 1), 4), ((1, 0, 0), 1), False))
        self.same((house.rooms_now, house.came_now, house.left_now), (((0, 2, 3), 4), ((1, 0, 0), 1), ((0, 0, 1), 4)))
        self.same(house.tally, (4, 1, 0))
        self.assertIs(house.tried(("come", 2, (1, 4))), True)
        self.same(house.log, (FORK, GOOD + (("leave", 2, (1, 4)), ("come", 2, (1, 4)))))
        for call in (lambda: house.come(2, (1, 4)), lambda: house.set_room(0, (5, 1)), lambda: house.leave(2, (1, 2)),
                     lambda: house.go(("come", 0, (0, 1))), lambda: house.undo(1), lambda: house.undo(0)):
            self.assertIsNone(call())
        self.same(house.tally, (8, 1, 1))

    def test_room_that_becomes_less(self):
        house = LiveHouse(BOARD)
        house.do_all((("room", 0, (1, 1)), ("come", 0, (1, 1)), ("room", 3, (1, 1)), ("room", 0, (1, 2))))
        self.same(house.held_now, ((1, 0, 0, 1), 2))
        self.same(house.passed_now, ((7, 8, 4, 0), 6))
        self.same(fields_of(raised(house.set_room, 3, (0, 1))), ("InvalidEvent", (("room", 3, (0, 1)), "gap")))
        self.same(fields_of(raised(house.leave, 3, (2, 3))), ("InvalidEvent", (("leave", 3, (2, 3)), "held")))
        house.set_room(0, (0, 1))
        self.same((house.held_now, house.passed_now), (((0, 0, 0, 1), 1), ((7, 8, 4, 0), 3)))
        # What leaves makes place, and what is held stays where it is.
        house.leave(3, (1, 3))
        self.same((house.held_now, house.passed_now), (((0, 0, 0, 2), 3), ((7, 8, 4, 0), 3)))
        self.same(house.tally, (6, 2, 0))

    def test_do_all_takes_back(self):
        house = LiveHouse(FORK)
        house.do_all(GOOD[:2])
        before = told_by(house), house.log
        fault = ("come", 0, (9, 2))
        events = (("come", 0, (1, 2)), ("leave", 1, (1, 4)), fault, ("come", 0, (1, 8)))
        refusal = raised(house.do_all, events)
        self.same(fields_of(refusal), ("InvalidEvent", (fault, "gap")))
        self.assertIs(refusal.event, fault)
        self.same((told_by(house), house.log), before)
        self.same(house.tally, (2, 1, 0))
        self.same(fields_of(raised(house.do_all, (("leave", 1, (1, 1)),))), ("InvalidEvent", (("leave", 1, (1, 1)), "held")))
        self.same(house.tally, (2, 2, 0))
        self.same(house.do_all(()), None)
        self.same(house.tally, (2, 2, 0))
        house.do_all(GOOD[2:])
        house.undo(3)
        self.same((told_by(house), house.tally), ((no_load(3),) * 5, (0, 2, 3)))

    def test_do_all_beside_one_by_one(self):
        dice = random.Random(331)
        told = {True: 0, False: 0}
        for turn in range(60):
            web = WEBS[turn % len(WEBS)]
            house, slow = LiveHouse(web), Slow(web)
            for _ in range(4):
                events = tuple(random_event(dice, size_of(web), 3) for _ in range(dice.randint(0, 3)))
                kept, refused = list(slow.events), None
                for event in events:
                    reason = slow.let(event)
                    if reason:
                        refused = ("InvalidEvent", (event, reason))
                        slow.events = kept
                        break
                refusal = raised(house.do_all, events)
                self.same(refusal and fields_of(refusal), refused)
                told[refused is None] += 1
                self.check(house, slow)
        self.assertGreater(min(told.values()), 40)

    def test_undo_of_none_some_all_and_more(self):
        house = LiveHouse(FORK)
        states = [told_by(house)]
        for event in GOOD + (("leave", 1, (1, 2)),):
            house.go(event)
            states.append(told_by(house))
        house.undo(0)
        self.same((told_by(house), house.tally), (states[4], (4, 0, 0)))
        house.undo(1)
        self.same((told_by(house), house.tally), (states[3], (3, 0, 1)))
        house.undo(many=2)
        self.same((told_by(house), house.tally, house.log), (states[1], (1, 0, 3), (FORK, GOOD[:1])))
        for many in (2, 3, 10 ** 59):
            self.same(fields_of(raised(house.undo, many)), ("NothingToUndo", (many,)))
            self.same((told_by(house), house.tally), (states[1], (1, 0, 3)))
        house.undo(1)
        self.same((told_by(house), house.tally), (states[0], (0, 0, 4)))
        self.same(fields_of(raised(house.undo, 1)), ("NothingToUndo", (1,)))
        house.undo(0)
        house.do_all(GOOD)
        self.same((told_by(house), house.tally), (states[3], (3, 0, 4)))

    def test_houses_go_by_themselves(self):
        one, other = LiveHouse(FORK), LiveHouse(FORK)
        one.do_all(GOOD)
        log = one.log
        self.same(told_by(other), (no_load(3),) * 5)
        one.undo(1)
        self.same((log, one.log), ((FORK, GOOD), (FORK, GOOD[:2])))

    def test_greatest(self):
        house = LiveHouse(BOARD)
        events = tuple(("room", k - k // 4 * 4, (k + 1, 59)) for k in range(20))
        events += tuple(("come", k - k // 4 * 4, (1, 60)) for k in range(20))
        house.do_all(events)
        slow = Slow(BOARD)
        slow.events = list(events)
        self.check(house, slow)
        self.same(house.tally, (40, 0, 0))

    def test_refusals(self):
        for web in WRONG_WEBS:
            self.same(fields_of(raised(LiveHouse, web)), ("NotUsable", ("web", -1)))
            self.same(fields_of(raised(LiveHouse, web=web)), ("NotUsable", ("web", -1)))
        house = LiveHouse(FORK)
        house.do_all(GOOD)
        before = told_by(house), house.log, house.tally
        for call in (house.come, house.set_room, house.leave):
            for place in bad_places(3):
                self.same(fields_of(raised(call, place, None)), ("NotUsable", ("place", -1)))
                self.same(fields_of(raised(call, place=place, amount=(1, 1))), ("NotUsable", ("place", -1)))
            for amount in bad_amounts():
                self.same(fields_of(raised(call, 0, amount)), ("NotUsable", ("amount", -1)))
                self.same(fields_of(raised(call, place=0, amount=amount)), ("NotUsable", ("amount", -1)))
        for event in bad_events(3):
            for call in (house.go, house.tried, house.refusal_of):
                self.same(fields_of(raised(call, event)), ("NotUsable", ("event", -1)))
            for events in ((event,), GOOD + (event,), [event]):
                self.same(fields_of(raised(house.do_all, events)), ("NotUsable", ("events", -1)))
        for events in (None, True, 0, "", [], list(GOOD), GOOD[0], "come", {}, (GOOD,)):
            self.same(fields_of(raised(house.do_all, events)), ("NotUsable", ("events", -1)))
        for many in bad_numbers():
            self.same(fields_of(raised(house.undo, many)), ("NotUsable", ("many", -1)))
        self.same((told_by(house), house.log, house.tally), before)


class Consequences(unittest.TestCase, Same):
    def houses(self, seed, many):
        dice = random.Random(seed)
        for turn in range(many):
            web = WEBS[turn % len(WEBS)] if turn % 2 else random_web(dice, 4)
            house = LiveHouse(web)
            for _ in range(dice.randint(0, 12)):
                house.tried(random_event(dice, size_of(web)))
            yield dice, web, house

    def test_held_and_left_is_what_came_and_moved(self):
        for _, web, house in self.houses(332, 80):
            held, _, passed, came, left = (values(load) for load in told_by(house))
            moved = step_values(web, passed)
            for i in range(size_of(web)):
                self.assertEqual(held[i] + left[i], came[i] + moved[i] - passed[i])

    def test_any_sequence_of_comings_and_lesser_rooms(self):
        dice = random.Random(333)
        told = 0
        for turn in range(200):
            web = WEBS[turn % len(WEBS)]
            size = size_of(web)
            rooms = [Fraction(dice.randint(2, 9)) for _ in range(size)]
            begin = tuple(("room", i, make_quotient(rooms[i])) for i in range(size))
            changes = [("come", dice.randrange(size), make_quotient(Fraction(dice.randint(1, 4), 2))) for _ in range(2)]
            changes += [("room", dice.randrange(size), make_quotient(Fraction(dice.randint(0, 3), 2)))]
            found = []
            for order in permutations(changes):
                house = LiveHouse(web)
                house.do_all(begin)
                if raised(house.do_all, tuple(order)) is None:
                    found.append((house.held_now, house.passed_now, house.rooms_now))
            # All sequences end with the same rooms: one held load and one sum of passes.
            self.assertLessEqual(len(set(found)), 1)
            self.assertIn(len(found), (0, 6))
            told += bool(found)
            if found:
                came = load_of_values([
                    sum((Fraction(*amount) for word, place, amount in changes if word == "come" and place == i), Fraction(0))
                    for i in range(size)
                ])
                self.same(found[0][:2], (first_end(web, came, found[0][2]), table_of(web, came, found[0][2])))
        self.assertGreater(told, 100)

    def test_replayed(self):
        for _, _, house in self.houses(334, 80):
            again = replayed(house.log)
            self.assertIsInstance(again, LiveHouse)
            self.assertIsNot(again, house)
            self.same(told_by(again), told_by(house))
            self.same(again.log, house.log)
            self.same(again.tally, (house.tally[0], 0, 0))
            self.same(told_by(replayed(log=house.log)), told_by(house))
        empty = replayed((TURN, ()))
        self.same((told_by(empty), empty.log), ((no_load(2),) * 5, (TURN, ())))

    def test_replayed_refusals(self):
        for events, at, reason in (
            (GOOD + (("come", 0, (1, 1)), ("leave", 0, (1, 1))), 3, "gap"), ((("leave", 0, (1, 9)),), 0, "held"),
            (GOOD + (("leave", 2, (3, 4)), ("come", 0, (1, 1))), 3, "held"), (GOOD[::-1], 0, "gap"),
        ):
            refusal = raised(replayed, (FORK, events))
            self.same(fields_of(refusal), ("InvalidEvent", (events[at], reason)))
            self.assertIs(refusal.event, events[at])
        for log in (None, True, 0, "", (), (FORK,), [FORK, ()], (FORK, list(GOOD)), (TURN, GOOD), (FORK, (None,)),
                    LiveHouse(FORK), (FORK, GOOD, ()), (None, ())):
            self.same(fields_of(raised(replayed, log)), ("NotUsable", ("log", -1)))
            self.same(fields_of(raised(replayed, log=log)), ("NotUsable", ("log", -1)))

    def test_amounts_of_0(self):
        house = LiveHouse(HALVES)
        house.do_all((("come", 0, (0, 1)), ("room", 1, (0, 1)), ("leave", 1, (0, 1))))
        self.same((told_by(house), house.tally), ((no_load(2),) * 5, (3, 0, 0)))
        house.set_room(1, (1, 1))
        house.come(0, (1, 1))
        self.same((house.held_now, house.passed_now), (unit_load(2, 1), ((2, 0), 1)))
