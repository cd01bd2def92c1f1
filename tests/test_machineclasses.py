"""Lines of machines and the class Machine ([71], [72])."""

import random
import re
import unittest
from fractions import Fraction

from stayorgo.behinds import behind, mixed
from stayorgo.machinechecker import is_machine
from stayorgo.machineclasses import Machine
from stayorgo.machinecourses import machine_course
from stayorgo.machineends import machine_end
from stayorgo.machinemaking import coin_machine, waits_machine
from stayorgo.machinepairs import is_sure
from stayorgo.machineprices import machine_price
from stayorgo.machinetexts import machine_line, read_machine
from stayorgo.machinewastes import machine_waste
from stayorgo.twos import later, sooner
from stayorgo.webclasses import Web

from tests.support import (
    BOARD, FORK, HALVES, ONE, TURN, MachineWalk, Same, bad_amounts, bad_loads, bad_machines, bad_numbers, bad_prices,
    check_refusals, fields_of, load_of_values, machine_cases, raised, random_machine, size_of,
)
from tests.test_coins import random_prices
from tests.test_webs import WRONG_WEBS

LEFT = ((1, 0), 1)
ONCE = waits_machine(2, 1)
LINE = "1,0:0,1;0,1:0,0;0,0/1"
NUMBER = "(0|[1-9][0-9]*)"
ROW = NUMBER + "(," + NUMBER + ")*"
FORM = re.compile("^" + ROW + "(:" + ROW + "(;" + ROW + ")*)+/[1-9][0-9]*\\Z")
SIGNS = "019,;:/ -+x."


def bad_sizes():
    """Values that are no numbers of at least 1."""
    return [None, True, False, 0, -1, "1", "", (), (1,), [1], -10 ** 59, ((1,), (((0,),),), 1)]


def goes_on(text):
    """Whether some text of the form begins with text: tried by all short endings."""
    return any(FORM.match(text + ending) for ending in (
        "", "0", "1", "/1", "0/1", "1/1", ":0/1", "0:0/1", ",0/1", "0,0:0/1"))


def slow_fault(text):
    """The first position such that no text of the form begins so, the length for what ends too soon, or None."""
    for at in range(len(text)):
        if not goes_on(text[:at + 1]):
            return at
    return None if FORM.match(text) else len(text)


def slow_row(size, text):
    """The row for which the text of the form is the line of no machine, or None."""
    head, _, tail = text.partition("/")
    parts = head.split(":")
    firsts = [int(word) for word in parts[0].split(",")]
    goes = [[[int(word) for word in row.split(",")] for row in part.split(";")] for part in parts[1:]]
    if sum(firsts) != int(tail) or len(firsts) != len(goes):
        return 0
    for s, rows in enumerate(goes):
        if len(rows) != size or any(len(row) != len(firsts) or sum(row) > int(tail) for row in rows):
            return 1 + s
    machine = (tuple(firsts), tuple(tuple(tuple(row) for row in rows) for rows in goes), int(tail))
    return None if is_machine(size, machine) else 1 + len(goes)


class Lines(unittest.TestCase, Same):
    def told(self, size, text):
        """What reading gives, as the second opinion has it."""
        at = slow_fault(text)
        if at is not None:
            return ("InvalidText", (0, at))
        row = slow_row(size, text)
        return None if row is None else ("InvalidRow", (row,))

    def check(self, size, text):
        refusal = raised(read_machine, size, text)
        told = fields_of(refusal) if refusal else None
        self.same(told, self.told(size, text), text)
        if told is None:
            self.same(machine_line(size, read_machine(size, text)), text)
        return told

    def test_written_and_read_back(self):
        dice = random.Random(230)
        for _ in range(150):
            size = dice.randint(1, 6)
            machine = random_machine(dice, size, dice.randint(1, 4))
            line = machine_line(size, machine)
            self.same(line, ",".join(map(str, machine[0])) + "".join(
                ":" + ";".join(",".join(map(str, row)) for row in rows) for rows in machine[1]) + "/" + str(machine[2]))
            self.assertTrue(FORM.match(line))
            self.same(read_machine(size, line), machine)
            self.same(read_machine(size=size, text=line), machine)
            self.same(machine_line(size=size, machine=machine), line)
        self.same(machine_line(2, ONCE), LINE)
        self.same(machine_line(1, ((1,), (((0,),),), 1)), "1:0/1")
        great = waits_machine(2, 19)
        self.same(read_machine(2, machine_line(2, great)), great)

    def test_cut_short_and_bent(self):
        dice = random.Random(231)
        told = {}
        lines = [(2, LINE)]
        for _ in range(6):
            size = dice.randint(1, 2)
            lines.append((size, machine_line(size, random_machine(dice, size, dice.randint(1, 2)))))
        for size, line in lines:
            for at in range(len(line) + 1):
                self.check(size, line[:at])
                self.check(size, line[at:])
                for sign in SIGNS:
                    found = self.check(size, line[:at] + sign + line[at:])
                    told[found and found[0]] = told.get(found and found[0], 0) + 1
                    if at < len(line):
                        self.check(size, line[:at] + sign + line[at + 1:])
        self.assertGreater(min(told["InvalidText"], told["InvalidRow"]), 50)

    def test_form(self):
        for text, at in (
            ("", 0), (":", 0), ("1", 1), ("1/1", 1), ("1;", 1), ("01", 1), ("1:", 2), ("1:/", 2), ("1:0", 3), ("1:0/", 4),
            ("1:0/0", 4), ("1:0/01", 4), ("1:0/1 ", 5), ("1:0/1\n", 5), (" 1:0/1", 0), ("1:00/1", 3), ("1,:0/1", 2),
            ("1::0/1", 2), ("1:0;/1", 4), ("1:0,/1", 4), ("1:0;;0/1", 4), ("1:0/1/1", 5), ("1:0/1,", 5), ("1:0/1:0", 5),
            ("1;0:0/1", 1), ("-1:0/1", 0), ("+1:0/1", 0), ("1:0/x", 4), ("1,0:0,1;0,1:0,0;0,0", 19), ("0/1", 1),
            ("1" * 4000, 4000), ("1," * 2000, 4000), ("x" * 4000, 0), ("1\n:0/1", 1), ("1:0_0/1", 3),
        ):
            self.same(fields_of(raised(read_machine, 1, text)), ("InvalidText", (0, at)), text)
            self.same(slow_fault(text) if len(text) < 100 else at, at)

    def test_rows(self):
        for size, text, row in (
            (1, "1:2/1", 1), (1, "2:0/1", 0), (1, "0:0/1", 0), (1, "1,0:0,0/1", 0), (1, "1:0:0/1", 0), (2, "1:0/1", 1),
            (1, "1:0;0/1", 1), (1, "1:0,0/1", 1), (1, "1,0:0,1:0/1", 2), (1, "1,0:0,1:1,1/1", 2), (1, "2:0/2", 2),
            (1, "2,0:0,0:0,2/2", 3), (2, "1,0:0,1;0,1:0,0;0/1", 2), (2, "1,0:0,1;0:0,0;0/1", 1), (1, "1:0:2/1", 0),
            (1, "4:2/4", 2), (1, "1,0:1,1:0/1", 1), (2, "1:0;0;0/1", 1), (1, "3,3:0,0:0,0/6", 3), (1, "1,1:0,2/2", 0),
        ):
            self.same(fields_of(raised(read_machine, size, text)), ("InvalidRow", (row,)), text)
            self.same(slow_row(size, text), row)
        self.same(read_machine(1, "4:3/4"), ((4,), (((3,),),), 4))

    def test_great_numbers(self):
        digits = "9" * 1900
        self.same(read_machine(1, digits + ":1/" + digits), ((int(digits),), (((1,),),), int(digits)))
        self.same(fields_of(raised(read_machine, 1, "1:" + digits + "/1")), ("InvalidRow", (1,)))

    def test_refusals(self):
        check_refusals(self, machine_line, [("size", 2), ("machine", ONCE)],
                       {"machine": bad_machines(2) + [waits_machine(1, 1), LINE]})
        for thing in (None, True, 1, (), [], ["1:0/1"], ("1:0/1",), 10 ** 59, ONCE):
            self.same(fields_of(raised(read_machine, 2, thing)), ("NotUsable", ("text", -1)))
            self.same(fields_of(raised(read_machine, size=2, text=thing)), ("NotUsable", ("text", -1)))


class Machines(unittest.TestCase, Same):
    def test_attributes(self):
        dice = random.Random(232)
        for _ in range(60):
            size = dice.randint(1, 6)
            machine = random_machine(dice, size, dice.randint(1, 4))
            for tool in (Machine(size, machine), Machine(size=size, machine=machine)):
                self.same((tool.size, tool.inside), (size, machine))
                self.same((tool.memories, tool.as_text), (len(machine[0]), machine_line(size, machine)))
                self.assertLessEqual({"size", "inside", "memories", "as_text"}, set(vars(tool)))
                self.assertTrue(Machine.of_text(size, tool.as_text) == tool)
                self.same(Machine.of_text(size=size, text=tool.as_text).inside, machine)

    def test_methods(self):
        dice = random.Random(233)
        endless = 0
        for _, web, start, machine in machine_cases(233, 100):
            tool = Machine(size_of(web), machine)
            self.same(tool.surely(web, start), is_sure(web, start, machine))
            self.same(tool.surely(web=web, start=start), is_sure(web, start, machine))
            course = machine_course(web, start, machine, 1)
            self.same(tool.course_on(web, start), course)
            self.same(tool.course_on(web=web, start=start, many=3), machine_course(web, start, machine, 3))
            self.same(tool.course_on(web, start, many=0), course[:1])
            many = dice.randint(0, 5)
            walk = MachineWalk(web, start, machine, many)
            stands = [load_of_values([sum(row) for row in zip(*rows)]) for rows in walk.stands]
            self.same(list(tool.moments_on(web, start, many)), stands)
            self.same([load for load in tool.moments_on(web=web, start=start, many=many)], stands)
            prices = random_prices(dice, size_of(web), None)
            if not is_sure(web, start, machine):
                endless += 1
                refusal = fields_of(raised(machine_end, web, start, machine))
                self.same(refusal[0], "Endless")
                for call in (lambda: tool(web, start), lambda: tool.waste_on(web, start),
                             lambda: tool.price_on(web, start, prices)):
                    self.same(fields_of(raised(call)), refusal)
                continue
            self.same(tool(web, start), machine_end(web, start, machine))
            self.same(tool(web=web, start=start), machine_end(web, start, machine))
            self.same(tool.waste_on(web, start), machine_waste(web, start, machine))
            self.same(tool.waste_on(web=web, start=start), machine_waste(web, start, machine))
            self.same(tool.price_on(web, start, prices), machine_price(web, start, machine, prices))
            price = tool.price_on(web=web, start=start, prices=prices)
            self.same(price, machine_price(web, start, machine, prices))
        self.assertGreater(endless, 10)

    def test_signs(self):
        dice = random.Random(234)
        for _ in range(60):
            size = dice.randint(1, 3)
            one, other = random_machine(dice, size, 2), random_machine(dice, size, dice.randint(1, 2))
            tool, more = Machine(size, one), Machine(size, other)
            part = dice.choice(((0, 1), (1, 1), (1, 3), (5, 7)))
            for made, machine in (
                (tool >> more, behind(size, one, other)), (tool & more, sooner(size, one, other)),
                (tool | more, later(size, one, other)), (tool.mix(more), mixed(size, one, other, (1, 2))),
                (tool.mix(more, part=part), mixed(size, one, other, part)),
                (tool.mix(other=more, part=part), mixed(size, one, other, part)), (more >> tool, behind(size, other, one)),
                (tool >> tool, behind(size, one, one)),
            ):
                self.assertIs(type(made), Machine)
                self.same((made.size, made.inside, made.memories), (size, machine, len(machine[0])))
                self.same(made.as_text, machine_line(size, machine))
            self.same((tool.inside, more.inside), (one, other))

    def test_others_that_are_none(self):
        tool = Machine(2, ONCE)
        for other in (None, True, 1, "", LINE, ONCE, (), [tool], Web(TURN), Machine(1, waits_machine(1, 1)),
                      Machine(3, waits_machine(3, 1)), 10 ** 59, (2, ONCE)):
            for call in (lambda: tool >> other, lambda: tool & other, lambda: tool | other, lambda: tool.mix(other),
                         lambda: tool.mix(other, part=None), lambda: tool.mix(part=None, other=other)):
                self.same(fields_of(raised(call)), ("NotUsable", ("other", -1)))
        for part in bad_amounts() + [(2, 1), (3, 2), [1, 2]]:
            self.same(fields_of(raised(tool.mix, tool, part=part)), ("NotUsable", ("part", -1)))
        with self.assertRaises(TypeError):
            tool.mix(tool, (1, 2))
        with self.assertRaises(TypeError):
            tool.course_on(TURN, LEFT, 2)

    def test_equal(self):
        self.assertTrue(Machine(2, ONCE) == Machine(2, ONCE))
        self.assertFalse(Machine(2, ONCE) != Machine(2, ONCE))
        self.assertTrue(Machine.of_text(2, LINE) == Machine(2, ONCE))
        self.assertTrue(Machine(1, ((1,), (((0,),),), 1)) == Machine(1, waits_machine(1, 0)))
        for other in (Machine(2, waits_machine(2, 2)), Machine(2, coin_machine(((1, 1),) * 2)),
                      Machine(1, waits_machine(1, 1)), Machine(3, waits_machine(3, 1)), None, True, 2, ONCE, (2, ONCE), LINE,
                      Web(TURN), [], ""):
            self.assertFalse(Machine(2, ONCE) == other)
            self.assertTrue(Machine(2, ONCE) != other)
        self.assertIs(Machine(2, ONCE) == Machine(2, ONCE), True)
        self.assertIs(Machine(2, ONCE) == ONCE, False)

    def test_refusals(self):
        good = [("size", 2), ("machine", ONCE)]
        check_refusals(self, Machine, good, {"size": bad_sizes(), "machine": bad_machines(2)})
        for size in (1, 3, 10 ** 59):
            self.same(fields_of(raised(Machine, size, ONCE)), ("NotUsable", ("machine", -1)))
        for thing in (None, True, 1, (), [], ("1:0/1",)):
            self.same(fields_of(raised(Machine.of_text, 2, thing)), ("NotUsable", ("text", -1)))
        for size in bad_sizes():
            self.same(fields_of(raised(Machine.of_text, size, None)), ("NotUsable", ("size", -1)))
            self.same(fields_of(raised(Machine.of_text, size, LINE)), ("NotUsable", ("size", -1)))
        self.same(fields_of(raised(Machine.of_text, 2, "1:0")), ("InvalidText", (0, 3)))
        self.same(fields_of(raised(Machine.of_text, 1, LINE)), ("InvalidRow", (1,)))
        tool = Machine(3, waits_machine(3, 1))
        good = [("web", FORK), ("start", ONE)]
        bad = {"web": WRONG_WEBS + [TURN, HALVES, BOARD, Web(FORK)], "start": bad_loads(3), "prices": bad_prices(3)}
        for method in (tool.surely, tool.waste_on, tool.course_on, tool.price_on):
            more = [("prices", (ONE,))] if method == tool.price_on else []
            check_refusals(self, method, good + more, bad)
        for name, wrong in (("web", TURN), ("start", None)):
            arguments = {**dict(good), name: wrong}
            for call in (lambda: tool(**arguments), lambda: list(tool.moments_on(**arguments, many=None)),
                         lambda: tool.course_on(**arguments, many=None), lambda: tool(*arguments.values())):
                self.same(fields_of(raised(call)), ("NotUsable", (name, -1)))
        for wrong in bad_numbers():
            for call in (lambda: list(tool.moments_on(FORK, ONE, wrong)), lambda: tool.course_on(FORK, ONE, many=wrong)):
                self.same(fields_of(raised(call)), ("NotUsable", ("many", -1)))

    def test_generator_raises_when_first_asked(self):
        tool = Machine(2, ONCE)
        held = tool.moments_on(FORK, LEFT, 1)
        self.same(fields_of(raised(next, held)), ("NotUsable", ("web", -1)))
        held = tool.moments_on(TURN, LEFT, 1)
        self.same((next(held), next(held), next(held, None)), (LEFT, ((0, 1), 1), None))

    def test_never_changes(self):
        tool = Machine(2, ONCE)
        for call in (lambda: tool(TURN, LEFT), lambda: tool >> tool, lambda: tool & tool, lambda: tool | tool,
                     lambda: tool.mix(tool), lambda: list(tool.moments_on(TURN, LEFT, 2)), lambda: tool(FORK, ONE)):
            raised(call)
            self.same((tool.size, tool.inside, tool.memories, tool.as_text), (2, ONCE, 2, LINE))
        self.same(tool(TURN, LEFT), (((0, 1), 1), LEFT))
        self.same((tool >> tool)(TURN, LEFT), (LEFT, ((1, 1), 1)))
        self.same(Fraction(*tool.price_on(TURN, LEFT, (LEFT,))), Fraction(1))
