"""Lines of events and the class Desk ([91], [92])."""

import random
import re
import unittest
from math import gcd

from stayorgo.desk import Desk
from stayorgo.eventtexts import event_line, read_event
from stayorgo.live import LiveHouse
from stayorgo.liveevents import is_event
from stayorgo.webclasses import Web
from stayorgo.webtexts import load_line

from tests.support import FORK, HALVES, TURN, WEBS, Same, bad_amounts, fields_of, raised, random_web, size_of
from tests.test_live import GOOD, Slow, random_event, told_by
from tests.test_webs import WRONG_WEBS

NUMBER = re.compile("(0|[1-9][0-9]*)\\Z")
AMOUNT = re.compile("(0|[1-9][0-9]*)/([1-9][0-9]*)\\Z")
ASKED = ("held", "rooms", "passed", "came", "left")
SIGNS = " 019/-+.xe\n"


def is_amount(word):
    found = AMOUNT.match(word)
    return bool(found) and gcd(int(found.group(1)), int(found.group(2))) == 1


def event_tests(size):
    """What the words of the line of an event of the size, or of any size, have to be."""
    return [
        lambda word: word in ("come", "room", "leave"),
        lambda word: bool(NUMBER.match(word)) and (size is None or int(word) < size), is_amount,
    ]


def first_field(words, tests):
    for k, word in enumerate(words):
        if k >= len(tests) or not tests[k](word):
            return k
    return None if len(words) == len(tests) else len(words)


def slow_field(text):
    """The field for which the text is the line of no event, or None."""
    return first_field(text.split(" "), event_tests(None))


def slow_desk_field(size, text):
    """The field for which a desk of the size does not hear the text, or None."""
    words = text.split(" ")
    if words[0] == "undo":
        return first_field(words, [lambda word: True, lambda word: bool(NUMBER.match(word))])
    if words[0] in ASKED + ("tally",):
        return first_field(words, [lambda word: True])
    return first_field(words, event_tests(size))


def bent_texts(text):
    """The text with fields left out, put twice, spoilt, sign by sign."""
    words = text.split(" ")
    for k in range(len(words)):
        yield " ".join(words[:k] + words[k + 1:])
        yield " ".join(words[:k] + [""] + words[k + 1:])
        yield " ".join(words[:k] + [words[k]] + words[k:])
        yield " ".join(words[:k] + [words[k].upper()] + words[k + 1:])
        yield " ".join(words[:k])
    for more in (" ", " 0", " come", "  ", "\n"):
        yield text + more
        yield more + text
    yield text.replace(" ", "  ")
    yield text.replace(" ", "")
    for at in range(len(text) + 1):
        yield text[:at]
        for sign in SIGNS:
            yield text[:at] + sign + text[at:]
            yield text[:at] + sign + text[at + 1:]


class Lines(unittest.TestCase, Same):
    def test_written_and_read_back(self):
        dice = random.Random(340)
        for _ in range(150):
            event = random_event(dice, dice.choice((1, 8, 60, 10 ** 30)), 10 ** dice.randint(0, 20))
            word, place, (top, bottom) = event
            line = "{} {} {}/{}".format(word, place, top, bottom)
            self.same(event_line(event), line)
            self.same(event_line(event=event), line)
            self.same(read_event(line), event)
            self.same(read_event(text=line), event)
        self.same(event_line(("leave", 0, (0, 1))), "leave 0 0/1")
        self.same(read_event("room 12 30/7"), ("room", 12, (30, 7)))

    def test_bent(self):
        told = {}
        for line in ("come 0 1/2", "leave 10 0/1", "room 7 12/5"):
            for text in bent_texts(line):
                field = slow_field(text)
                told[field] = told.get(field, 0) + 1
                if field is None:
                    self.same(event_line(read_event(text)), text)
                else:
                    self.same(fields_of(raised(read_event, text)), ("InvalidText", (0, field)), text)
        self.assertEqual(set(told), {None, 0, 1, 2, 3})

    def test_told(self):
        for text, field in (
            ("come 0 2/4", 2), ("", 0), (" ", 0), ("come", 1), ("come 0", 2), ("come ", 1), ("come 0 ", 2), ("Come 0 1/2", 0),
            ("come  0 1/2", 1), ("come 0  1/2", 2), ("come 0 1/2 ", 3), ("come 0 1/2 1/2", 3), (" come 0 1/2", 0),
            ("come 00 1/2", 1), ("come 01 1/2", 1), ("come -1 1/2", 1), ("come +1 1/2", 1), ("come x 1/2", 1),
            ("come 0 1/0", 2), ("come 0 0/2", 2), ("come 0 1", 2), ("come 0 /2", 2), ("come 0 1/", 2), ("come 0 -1/2", 2),
            ("come 0 01/2", 2), ("come 0 1/02", 2), ("come 0 1/2/3", 2), ("come 0 1/2\n", 2), ("come\n0 1/2", 0),
            ("come 0 2/1 x y z", 3), ("undo 1", 0), ("held", 0), ("tally", 0), ("go 0 1/2", 0), ("x" * 4000, 0),
            (" " * 4000, 0), ("come 1_0 1/2", 1), ("come x 2/4 1", 1), ("x x x x", 0), ("come 0 2/4 x", 2),
        ):
            self.same(slow_field(text), field, text)
            self.same(fields_of(raised(read_event, text)), ("InvalidText", (0, field)), text)

    def test_great_numbers(self):
        digits = "9" * 1900
        text = "come " + digits + " " + digits + "/1"
        self.same(event_line(read_event(text)), text)

    def test_refusals(self):
        wrong = [None, True, 0, "", "come 0 1/2", (), [], ["come", 0, (1, 2)], ("come", 0), ("come", 0, (1, 2), 0)]
        wrong += [("Come", 0, (1, 2)), (True, 0, (1, 2)), (["come"], 0, (1, 2)), ("come", -1, (1, 2)), ("come", True, (1, 2))]
        wrong += [("come", None, (1, 2)), ("come", "0", (1, 2)), Web(TURN)] + [("room", 0, amount) for amount in bad_amounts()]
        for event in wrong:
            self.same(fields_of(raised(event_line, event)), ("NotUsable", ("event", -1)), event)
            self.same(fields_of(raised(event_line, event=event)), ("NotUsable", ("event", -1)), event)
        for text in (None, True, 0, (), [], ("come 0 1/2",), ["come 0 1/2"], GOOD[0], 10 ** 59):
            self.same(fields_of(raised(read_event, text)), ("NotUsable", ("text", -1)))
            self.same(fields_of(raised(read_event, text=text)), ("NotUsable", ("text", -1)))


class SlowDesk:
    """A desk by the words of [92]."""

    def __init__(self, web):
        self.slow = Slow(web)

    def hear(self, text):
        words = text.split(" ")
        slow = self.slow
        if words[0] in ASKED:
            return load_line(slow.loads_after(slow.events)[ASKED.index(words[0])])
        if words[0] == "tally":
            return "{} {} {}".format(len(slow.events), slow.refused, slow.undone)
        if words[0] == "undo":
            return "done" if slow.undo(int(words[1])) else "no: undo"
        reason = slow.let(read_event(text))
        return "done" if reason is None else "no: " + reason


def random_text(dice, size):
    k = dice.random()
    if k < 0.2:
        return dice.choice(ASKED + ("tally",))
    if k < 0.3:
        return "undo " + str(dice.choice((0, 1, 2, 9, 10 ** 40)))
    return event_line(random_event(dice, size))


class Desks(unittest.TestCase, Same):
    def test_answers_to_all_texts(self):
        dice = random.Random(341)
        told = {}
        for turn in range(40):
            web = WEBS[turn % len(WEBS)] if turn % 2 else random_web(dice, 4)
            desk, slow = Desk(web), SlowDesk(web)
            self.same(desk.log, (web, ()))
            for _ in range(dice.randint(6, 16)):
                text = random_text(dice, size_of(web))
                answer = slow.hear(text)
                word = answer if text.split(" ")[0] not in ASKED + ("tally",) else text
                told[word] = told.get(word, 0) + 1
                if dice.random() < 0.5:
                    self.same(desk.hear(text), answer)
                else:
                    self.same(desk.hear(text=text), answer)
                self.same(desk.log, (web, tuple(slow.slow.events)))
        self.assertEqual(set(told), set(ASKED) | {"tally", "done", "no: gap", "no: held", "no: undo"})

    def test_told(self):
        self.same(list(Desk(TURN).hear_all("room 1 1/2", "come 0 1/2", "passed", "undo 3")),
                  ["done", "done", "1,0/2", "no: undo"])
        desk = Desk(web=FORK)
        answers = [desk.hear(text) for text in (
            "tally", "held", "room 1 1/2", "room 2 3/4", "come 0 1/1", "held", "rooms", "passed", "came", "left",
            "leave 2 1/4", "left", "come 0 1/1", "leave 0 1/9", "undo 0", "undo 1", "left", "undo 9", "tally",
        )]
        self.same(answers, [
            "0 0 0", "0,0,0/1", "done", "done", "done", "0,1,1/2", "0,2,3/4", "1,0,0/1", "1,0,0/1", "0,0,0/1", "done",
            "0,0,1/4", "no: gap", "no: held", "done", "done", "0,0,0/1", "no: undo", "3 2 1",
        ])
        self.same(desk.log, (FORK, GOOD))

    def test_bent(self):
        told = {}
        lines = ("come 0 1/2", "undo 1", "undo 20", "tally") + ASKED + ("leave 2 0/1", "room 1 2/1")
        for line in lines:
            for text in bent_texts(line):
                field = slow_desk_field(3, text)
                told[field] = told.get(field, 0) + 1
                desk = Desk(FORK)
                if field is None:
                    self.same(desk.hear(text), SlowDesk(FORK).hear(text), text)
                else:
                    self.same(fields_of(raised(desk.hear, text)), ("InvalidText", (0, field)), text)
                    self.same((desk.log, desk.hear("tally")), ((FORK, ()), "0 0 0"))
        self.assertEqual(set(told), {None, 0, 1, 2, 3})

    def test_fields(self):
        for text, field in (
            ("", 0), (" ", 0), ("x", 0), ("undo", 1), ("undo ", 1), ("undo x", 1), ("undo -1", 1), ("undo 01", 1),
            ("undo 1 ", 2), ("undo 1 2", 2), ("undo  1", 1), ("undo x 2", 1), ("held ", 1), ("held 0", 1), (" held", 0),
            ("tally tally", 1), ("Held", 0), ("log", 0), ("come 3 1/2", 1), ("come 3", 1), ("come 3 2/4 x", 1), ("come", 1),
            ("come 2", 2), ("come 2 2/4", 2), ("come 2 1/2 3", 3), ("room 9 1/2", 1), ("held\n", 0), ("undo 1\n", 1),
            ("holds", 0), ("done", 0), ("no: gap", 0), ("come " + "9" * 3000 + " 1/2", 1),
        ):
            self.same(slow_desk_field(3, text), field, text)
            self.same(fields_of(raised(Desk(FORK).hear, text)), ("InvalidText", (0, field)), text)

    def test_each_text_is_heard_when_its_answer_is_asked_for(self):
        desk = Desk(FORK)
        answers = desk.hear_all("room 1 1/1", "come 0 1/2", "room 2 1/1", "come 0 1/2", "tally")
        self.same(desk.log, (FORK, ()))
        self.same(next(answers), "done")
        self.same(desk.log, (FORK, (("room", 1, (1, 1)),)))
        self.same(desk.hear("tally"), "1 0 0")
        self.same(next(answers), "no: gap")
        self.same(desk.hear("undo 1"), "done")
        self.same([next(answers), next(answers), next(answers), next(answers, None)], ["done", "done", "2 1 1", None])
        self.same(list(desk.hear_all()), [])

    def test_refuses_ahead_of_hearing_any(self):
        desk = Desk(FORK)
        fine = "room 1 1/1"
        for texts, told in (
            ((fine, None), ("NotUsable", ("texts", -1))), ((fine, "x", True), ("NotUsable", ("texts", -1))),
            ((1,), ("NotUsable", ("texts", -1))), (((fine,),), ("NotUsable", ("texts", -1))),
            ((fine, [fine]), ("NotUsable", ("texts", -1))), ((fine, "x"), ("InvalidText", (1, 0))),
            ((fine, fine, "come 0 2/4", ""), ("InvalidText", (2, 2))), (("undo",), ("InvalidText", (0, 1))),
            ((fine, "come 3 1/2"), ("InvalidText", (1, 1))), ((fine, "held", "held x", "y"), ("InvalidText", (2, 1))),
            ((fine,) * 5 + ("come 0 1/2 3",), ("InvalidText", (5, 3))),
        ):
            answers = desk.hear_all(*texts)
            self.same(fields_of(raised(next, answers)), told)
            self.same((desk.log, desk.hear("tally")), ((FORK, ()), "0 0 0"))
        with self.assertRaises(TypeError):
            desk.hear_all(texts=(fine,))

    def test_desks_go_by_themselves(self):
        one, other = Desk(HALVES), Desk(HALVES)
        one.hear("room 0 1/2")
        self.same((other.log, other.hear("rooms"), one.hear("rooms")), ((HALVES, ()), "0,0/1", "1,0/2"))

    def test_refusals(self):
        for web in WRONG_WEBS:
            self.same(fields_of(raised(Desk, web)), ("NotUsable", ("web", -1)))
            self.same(fields_of(raised(Desk, web=web)), ("NotUsable", ("web", -1)))
        desk = Desk(FORK)
        for text in (None, True, 0, (), [], ("held",), ["held"], 10 ** 59, GOOD[0], desk):
            self.same(fields_of(raised(desk.hear, text)), ("NotUsable", ("text", -1)))
            self.same(fields_of(raised(desk.hear, text=text)), ("NotUsable", ("text", -1)))

    def test_beside_a_house(self):
        dice = random.Random(342)
        for web in WEBS:
            desk, house = Desk(web), LiveHouse(web)
            for _ in range(8):
                event = random_event(dice, size_of(web))
                self.same(is_event(size_of(web), event), True)
                self.same(desk.hear(event_line(event)) == "done", house.tried(event))
            self.same(desk.log, house.log)
            self.same([desk.hear(word) for word in ASKED], [load_line(load) for load in told_by(house)])
