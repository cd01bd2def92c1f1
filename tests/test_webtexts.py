"""Stage 3: lines of loads and webs, and the class Web."""

import random
import re
import unittest

from stayorgo.arrows import arrows_of, closed_lots, fleeting_places
from stayorgo.kinds import is_load
from stayorgo.stepping import stepped, walked
from stayorgo.webchecker import is_web
from stayorgo.webclasses import Web
from stayorgo.webmaking import beside, row_of
from stayorgo.webtexts import load_line, read_load, read_web, web_line

from tests.support import (
    ALONE, BOARD, FORK, HALVES, LADDER, ONE, TURN, WEBS, Same, bad_loads, bad_numbers, check_refusals, fields_of,
    raised, random_load, random_web, refused_as,
)
from tests.test_webs import WRONG_WEBS

NO_STRINGS = [None, True, 0, (), [], ("0/1",), ["0/1"], 10 ** 59]
SIGNS = [chr(number) for number in range(32, 127)] + ["\n"]
NUMBER = "(0|[1-9][0-9]*)"
LOAD_FORM = re.compile("{n}(,{n})*/[1-9][0-9]*".format(n=NUMBER))
WEB_FORM = re.compile("{n}([,;]{n})*/[1-9][0-9]*".format(n=NUMBER))


def goes_on(form, text):
    """Whether some text of the form begins with text: if so, a few characters more make one."""
    return any(form.fullmatch(text + more) for more in ("", "/1", "1", "0/1", "1/1"))


def first_wrong(form, text):
    """The position for InvalidText, or None, by the words of the document."""
    if form.fullmatch(text):
        return None
    for at in range(len(text)):
        if not goes_on(form, text[:at + 1]):
            return at
    return len(text)


class Lines(unittest.TestCase, Same):
    def test_lines_are_read_back(self):
        dice = random.Random(25)
        for _ in range(60):
            load = random_load(dice, dice.randint(1, 8), 10 ** dice.randint(0, 15))
            self.same(load_line(load), ",".join(map(str, load[0])) + "/" + str(load[1]))
            self.same(read_load(load_line(load)), load)
        for web in WEBS + tuple(random_web(dice) for _ in range(40)):
            self.same(web_line(web), ";".join(",".join(map(str, row)) for row in web[0]) + "/" + str(web[1]))
            self.same(read_web(web_line(web)), web)
        self.same(load_line(load=ONE), "1,0,0/1")
        self.same(read_load(text="0/1"), ((0,), 1))
        self.same(web_line(web=ALONE), "1/1")
        self.same(read_web(text="1/1"), ALONE)

    def test_great_numbers(self):
        text = "9" * 1999 + "/1" + "0" * 1998
        self.same(read_load(text), ((int("9" * 1999),), 10 ** 1998))
        self.same(load_line(read_load(text)), text)

    def test_no_string(self):
        for function in (read_load, read_web):
            check_refusals(self, function, [("text", "1/1")], {"text": NO_STRINGS})

    def told(self, function, form, text):
        """Checks what function says of the text's form; whether it has the form."""
        wrong = first_wrong(form, text)
        refusal = raised(function, text)
        if wrong is None:
            self.assertFalse(type(refusal).__name__ == "InvalidText", text)
        else:
            self.same(fields_of(refusal), ("InvalidText", (0, wrong)), text)

    def test_bent_texts(self):
        texts = ["", " ", "/", "/1", "1", "1/", "1/0", "1/1 ", " 1/1", "1/1/1", "1,/1", ",1/1", "1,,1/1", "1,0/01",
                 "01/1", "00/1", "-1/1", "+1/1", "1.0/1", "1/1,", "1/1;", "1;/1", ";1/1", "1;;1/1", "1,0;0,1/1", "a/1",
                 "1/a", "1\n/1", "1/1\n", "0,01/1", "10,20/30", "1 ,0/1", "1, 0/1", "1/10", "0/1", "1/-1", "~",
                 "1,1;1,1/2"]
        for text in texts:
            self.told(read_load, LOAD_FORM, text)
            self.told(read_web, WEB_FORM, text)

    def test_texts_cut_short_and_bent_at_each_position(self):
        for line in ("10,0,203/45", "0/1"):
            for at in range(len(line) + 1):
                self.told(read_load, LOAD_FORM, line[:at])
                for sign in SIGNS:
                    self.told(read_load, LOAD_FORM, line[:at] + sign + line[at:])
                    self.told(read_load, LOAD_FORM, line[:at] + sign + line[at + 1:])
        for line in (web_line(BOARD), "10,2;0,12/12"):
            for at in range(len(line) + 1):
                self.told(read_web, WEB_FORM, line[:at])
                for sign in SIGNS:
                    self.told(read_web, WEB_FORM, line[:at] + sign + line[at:])
                    self.told(read_web, WEB_FORM, line[:at] + sign + line[at + 1:])

    def test_told_positions(self):
        for text, at in (("", 0), ("1", 1), ("1,", 2), ("1/", 2), ("1/0", 2), ("1/1x", 3), ("01/1", 1), ("1;1/1", 1),
                         ("1,,1/1", 2), ("12,034/5", 4), ("x", 0), ("1/1/", 3)):
            self.same(fields_of(raised(read_load, text)), ("InvalidText", (0, at)), text)
        for text, at in (("1;", 2), ("1;;", 2), ("1;0,01/1", 5), ("1;/1", 2), ("1,0;0,1/0", 8), ("1,0;0,1", 7)):
            self.same(fields_of(raised(read_web, text)), ("InvalidText", (0, at)), text)

    def test_lines_of_no_load(self):
        for text in ("2/2", "0/2", "2,4/6", "0,0/7", "3,6,9/3"):
            self.same(fields_of(raised(read_load, text)), ("InvalidRow", (0,)), text)
        for text in ("2/1", "0,0/1", "2,4/7", "10,10/3"):
            self.assertTrue(is_load(text.count(",") + 1, read_load(text)), text)

    def test_lines_of_no_web(self):
        told = [
            ("1,0/1", 0), ("1;1/1", 0), ("1,0;1/1", 1), ("1,0,0;0,1/1", 0), ("1,0;0,1,0/1", 1), ("1,0;0,1;1,0/1", 0),
            ("2,0,0;0,5;0,0,2/2", 1), ("5,0;1/1", 1),
            ("2/1", 0), ("0/1", 0), ("1,0;1,1/1", 1), ("1,1;0,1/1", 0), ("1,1;1,1/1", 0), ("2,0;0,4/2", 1),
            ("2/2", 1), ("2,0;0,2/2", 2), ("2,2;4,0/4", 2), ("3,0,0;0,3,0;0,0,3/3", 3),
        ]
        for text, row in told:
            self.same(fields_of(raised(read_web, text)), ("InvalidRow", (row,)), text)


class WebObjects(unittest.TestCase, Same):
    def test_attributes(self):
        for web in WEBS:
            for net in (Web(web), Web(web=web)):
                self.same(net.inner, web)
                self.same(net.chances, tuple(row_of(web, place) for place in range(len(web[0]))))
                self.same(net.lots, closed_lots(web))
                self.same(net.fleeting, fleeting_places(web))
                self.same(net.as_line, web_line(web))
                self.same(len(net), len(web[0]))
                self.same(list(net), list(net.chances))
                self.same([row for row in net] + [row for row in net], list(net.chances) * 2)

    def test_arrows_in_it(self):
        for web in WEBS:
            net, size = Web(web), len(web[0])
            for i in range(-1, size + 1):
                for j in range(-1, size + 1):
                    self.same((i, j) in net, (i, j) in arrows_of(web))
        net = Web(TURN)
        for thing in (None, True, 0, "01", "", (), (0,), (0, 1, 0), [0, 1], (False, 1), (0, True), ("0", 1), (0, None),
                      ((0, 1),), (0, 10 ** 59), Web(TURN), ((1, 0), 1), row_of(TURN, 0)):
            self.same(thing in net, False, thing)

    def test_equality(self):
        nets = [Web(web) for web in WEBS]
        for at, net in enumerate(nets):
            for other, web in enumerate(WEBS):
                self.same(net == Web(web), at == other)
                self.same(net != Web(web), at != other)
            for thing in (None, True, WEBS[at], net.as_line, net.chances, (), [net]):
                self.same(net == thing, False)

    def test_call_and_walk(self):
        dice = random.Random(26)
        for web in WEBS:
            net, start = Web(web), random_load(dice, len(web[0]))
            self.same(net(start), stepped(web, start))
            self.same(net(start=start), stepped(web, start))
            self.same(net.walk(start), stepped(web, start))
            for many in (0, 1, 2, 16):
                self.same(net.walk(start, many=many), walked(web, start, many))
                self.same(net.walk(start=start, many=many), walked(web, start, many))
        with self.assertRaises(TypeError):
            Web(TURN).walk(((1, 0), 1), 2)

    def test_sum(self):
        for web in WEBS:
            net = Web(web)
            both = net + Web(LADDER)
            self.assertIs(type(both), Web)
            self.same(both.inner, beside(web, LADDER))
            self.assertIsNot(both, net)
            self.same(net.inner, web)
        self.same((Web(TURN) + Web(ALONE)).as_line, "0,1,0;1,0,0;0,0,1/1")
        for thing in (None, True, 1, "1/1", (), TURN, [Web(TURN)], ALONE):
            refusal = raised(lambda: Web(TURN) + thing)
            self.same(fields_of(refusal), ("NotUsable", ("other", -1)), thing)

    def test_read_line(self):
        for web in WEBS:
            line = web_line(web)
            for net in (Web.read_line(line), Web.read_line(text=line), Web(TURN).read_line(line)):
                self.assertIs(type(net), Web)
                self.same(net.inner, web)
        for thing in NO_STRINGS:
            self.same(fields_of(raised(Web.read_line, thing)), ("NotUsable", ("text", -1)))
        self.same(fields_of(raised(Web.read_line, "1;")), ("InvalidText", (0, 2)))
        self.same(fields_of(raised(Web.read_line, "2/2")), ("InvalidRow", (1,)))

    def test_refusals(self):
        check_refusals(self, Web, [("web", FORK)], {"web": WRONG_WEBS})
        for web in WRONG_WEBS:
            self.assertFalse(is_web(web))
        net = Web(FORK)
        for wrong in bad_loads(3):
            self.assertEqual(refused_as(net, [wrong], ["start"]), ("start", -1))
            self.same(fields_of(raised(net.walk, wrong)), ("NotUsable", ("start", -1)))
            self.same(fields_of(raised(net.walk, wrong, many=-1)), ("NotUsable", ("start", -1)))
        for wrong in bad_numbers():
            self.same(fields_of(raised(net.walk, ONE, many=wrong)), ("NotUsable", ("many", -1)))
        self.same(net.inner, FORK)

    def test_never_changed_by_use(self):
        net = Web(HALVES)
        before = repr(vars(net))
        net.walk(((1, 0), 1), many=3)
        net(((1, 0), 1))
        net + net
        list(net)
        (0, 1) in net
        self.assertEqual(repr(vars(net)), before)
