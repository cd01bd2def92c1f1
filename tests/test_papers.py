"""Stage 6: papers, coming to, first ends, the class Rooms."""

import random
import unittest
from fractions import Fraction

from stayorgo.comings import can_come, end_places, need_of
from stayorgo.compares import is_within
from stayorgo.ends import first_end, room_left
from stayorgo.firsts import by_first, is_end
from stayorgo.gaps import gaps_of
from stayorgo.loads import added, no_load, scaled, unit_load, weight_of
from stayorgo.morerooms import greatest_share, least_more
from stayorgo.quotients import is_less, plus
from stayorgo.roomclasses import Rooms
from stayorgo.roompapers import lets_room, room_paper
from stayorgo.stepping import stepped
from stayorgo.tables import can_stay, table_of

from tests.support import (
    ALONE, BOARD, FORK, HALVES, LADDER, ONE, THREE_LOTS, TURN, TWO_LOTS, WEBS, Same, bad_loads, bad_places, bad_sets,
    check_refusals, fields_of, load_of_values, raised, random_load, size_of, slow_fleeting, slow_gap, slow_hope,
    slow_hopes, slow_lots, slow_table, subsets, values,
)
from tests.test_tables import CheckNoRoom, cases
from tests.test_webs import WRONG_WEBS

WIDE = ((0, 1, 1), 2)
TIGHT = ((0, 10, 3), 10)


class Papers(unittest.TestCase, Same):
    def test_papers_are_let(self):
        kinds = {"table": 0, "gap": 0}
        for web, start, rooms in cases(29):
            paper = room_paper(web, start, rooms)
            kinds[paper[0]] += 1
            if can_stay(web, start, rooms):
                self.same(paper, ("table", table_of(web, start, rooms)))
                self.same(lets_room(web, start, rooms, paper), True)
            else:
                self.assertIs(type(paper), tuple)
                self.assertEqual(paper[0], "gap")
                self.assertIn(paper[1:], gaps_of(web, start, rooms))
                self.same(lets_room(web, start, rooms, paper), False)
            for closed, barred in [pair for pair, _ in slow_hopes(web)]:
                if (closed, barred) in gaps_of(web, start, rooms):
                    self.same(lets_room(web, start, rooms, ("gap", closed, barred)), False)
                else:
                    self.refuses_paper("gap", -1, lets_room, web, start, rooms, ("gap", closed, barred))
        self.assertGreater(min(kinds.values()), 20)

    def test_shape(self):
        table = ((1, 0, 0), 1)
        for thing in (None, True, 0, "", "table", (), ("table",), ("gap",), ("table", table, table), ["table", table],
                      ("gap", (2,)), ("gap", (2,), (1,), ()), ["gap", (2,), (1,)], ("Table", table), ("tables", table),
                      (table, "table"), (None, table), (True, (2,), (1,)), ("table", (2,), (1,)), ("gap", table),
                      (["table"], table), (("gap",), (2,), (1,)), "ab", "abc"):
            self.refuses_paper("shape", -1, lets_room, FORK, ONE, WIDE, thing)

    def test_load(self):
        for thing in bad_loads(3):
            self.refuses_paper("load", 1, lets_room, FORK, ONE, WIDE, ("table", thing))

    def test_passed_and_over(self):
        for thing, word, at in (
            (((2, 0, 0), 1), "passed", 0), (((1, 1, 0), 1), "passed", 1), (((1, 0, 1), 1), "lot", 0),
            (((1, 0, 0), 2), "passed", 0), (((0, 0, 0), 1), "over", 0), (((0, 1, 1), 1), "over", 0),
            (((2, 1, 1), 1), "passed", 0), (((1, 1, 1), 1), "passed", 1),
        ):
            self.refuses_paper(word, at, lets_room, FORK, ONE, WIDE, ("table", thing))
        self.refuses_paper("passed", 2, lets_room, FORK, ONE, ((0, 2, 3), 4), ("table", ((1, 0, 1), 1)))
        self.refuses_paper("over", 1, lets_room, FORK, ONE, ((0, 1, 3), 4), ("table", ((1, 0, 0), 1)))
        self.refuses_paper("over", 2, lets_room, FORK, ONE, ((0, 1, 1), 4), ("table", ((4, 1, 0), 4)))
        # The faults of a place come ahead of those of the next one, whatever their kind.
        self.refuses_paper("over", 0, lets_room, FORK, ONE, WIDE, ("table", ((0, 5, 5), 1)))
        self.refuses_paper("passed", 1, lets_room, FORK, ONE, ((0, 1, 1), 4), ("table", ((4, 3, 0), 4)))

    def test_lots(self):
        full, passed = ((1, 0), 1), ((1, 1), 1)
        self.same(lets_room(TURN, full, full, ("table", no_load(2))), True)
        self.refuses_paper("lot", 0, lets_room, TURN, full, full, ("table", passed))
        start = ((0, 0, 1, 1, 1), 1)
        self.refuses_paper("lot", 1, lets_room, TWO_LOTS, start, start, ("table", ((0, 0, 0, 2, 2), 1)))
        self.refuses_paper("lot", 0, lets_room, TWO_LOTS, start, start, ("table", ((0, 0, 2, 1, 1), 1)))
        self.refuses_paper("lot", 2, lets_room, THREE_LOTS, no_load(5), no_load(5), ("table", ((0, 0, 0, 0, 1), 1)))
        self.refuses_paper("over", 4, lets_room, TWO_LOTS, start, ((0, 0, 1, 1, 0), 1), ("table", ((0, 0, 1, 0, 0), 1)))

    def test_accepted_exactly_if_it_is_the_table(self):
        dice = random.Random(30)
        for web, start, rooms in cases(30, 60):
            table = slow_table(web, start, rooms)
            for _ in range(6):
                thing = random_load(dice, size_of(web), 4)
                if thing != table:
                    refusal = raised(lets_room, web, start, rooms, ("table", thing))
                    self.assertEqual(type(refusal).__name__, "InvalidPaper")

    def test_closed_and_barred(self):
        for closed in bad_sets(3) + [(), (0,), (1,), (1, 2), (0, 1, 2), [2], "2"]:
            self.refuses_paper("closed", 1, lets_room, FORK, ONE, TIGHT, ("gap", closed, (1,)))
            self.refuses_paper("closed", 1, lets_room, FORK, ONE, TIGHT, ("gap", closed, (2,)))
        for barred in bad_sets(3) + [(2,), (0, 2), (0, 1, 2), [1], "1"]:
            self.refuses_paper("barred", 2, lets_room, FORK, ONE, TIGHT, ("gap", (2,), barred))
        for barred in ((), (0,), (0, 1)):
            self.refuses_paper("gap", -1, lets_room, FORK, ONE, TIGHT, ("gap", (2,), barred))
        # A gap of just 0 is not above 0.
        self.refuses_paper("gap", -1, lets_room, FORK, ONE, ((0, 1, 3), 4), ("gap", (2,), ()))
        self.refuses_paper("closed", 1, lets_room, TURN, ((1, 0), 1), no_load(2), ("gap", (False, True), ()))

    def test_refusals(self):
        bad = {"start": bad_loads(3), "rooms": bad_loads(3)}
        good = [("web", FORK), ("start", ONE), ("rooms", WIDE)]
        check_refusals(self, room_paper, good, bad)
        check_refusals(self, lets_room, good + [("thing", ("table", ((1, 0, 0), 1)))], bad)
        self.same(fields_of(raised(lets_room, FORK, ONE, None, None)), ("NotUsable", ("rooms", -1)))
        self.same(lets_room(web=FORK, start=ONE, rooms=TIGHT, thing=("gap", (2,), (1,))), False)
        self.same(room_paper(web=FORK, start=ONE, rooms=TIGHT), ("gap", (2,), (1,)))


def targets(seed, many=100):
    """Quadruples (web, start, rooms, target) with targets of the start's weight, and of another one."""
    dice = random.Random(seed)
    for web, start, rooms in cases(seed, many):
        for kind in range(3):
            target = random_load(dice, size_of(web))
            if kind == 0 and can_stay(web, start, rooms):
                end = first_end(web, start, rooms)
                later = room_left(web, start, rooms)
                target = end
                if weight_of(stepped(web, end)) == weight_of(end) and is_within(stepped(web, end), added(end, later)):
                    target = stepped(web, end)
            if kind == 1 and weight_of(target)[0] > 0:
                factor = Fraction(*weight_of(start)) / Fraction(*weight_of(target))
                target = load_of_values([factor * number for number in values(target)])
            yield web, start, rooms, target


class Comings(unittest.TestCase, Same, CheckNoRoom):
    def test_can_come_and_need(self):
        dealt = {True: 0, False: 0}
        for web, start, _, target in targets(31):
            table = slow_table(web, start, target)
            comes = sum(values(start)) == sum(values(target)) and table is not None
            dealt[comes] += 1
            self.same(can_come(web, start, target), comes)
            if comes:
                self.same(first_end(web, start, target), target)
            if table is None:
                self.refuses_room(web, start, target, need_of, web, start, target)
            else:
                self.same(need_of(web, start, target), weight_of(table))
        self.assertGreater(min(dealt.values()), 50)

    def test_targets_of_another_weight(self):
        self.same(can_come(FORK, ONE, ((2, 0, 0), 1)), False)
        self.same(can_come(FORK, ONE, ((1, 0, 0), 2)), False)
        self.same(can_come(FORK, ONE, ((0, 1, 4), 4)), False)
        self.same(can_come(FORK, ONE, ((0, 1, 3), 4)), True)
        self.same(can_come(FORK, ONE, ((0, 3, 1), 4)), False)
        self.same(need_of(FORK, ONE, ((0, 2, 2), 1)), (1, 1))
        self.same(need_of(FORK, ONE, ((0, 1, 3), 4)), (5, 4))
        self.refuses_room(FORK, ONE, ((1, 0, 0), 2), need_of, FORK, ((2, 0, 0), 1), ((1, 0, 0), 2))

    def test_each_load_comes_to_itself_and_further(self):
        later = 0
        for web, start, _, target in targets(32, 80):
            self.same(can_come(web, start, start), True)
            self.same(need_of(web, start, start), (0, 1))
            last = stepped(web, target)
            if can_come(web, start, target):
                later += 1
                self.same(can_come(web, target, last), True)
                self.same(can_come(web, start, last), True)
                both = plus(need_of(web, start, target), need_of(web, target, last))
                self.same(is_less(both, need_of(web, start, last)), False)
        self.assertGreater(later, 20)

    def test_end_places(self):
        for web in WEBS:
            size = size_of(web)
            for places in subsets(range(size)):
                start = ((tuple(int(place in places) for place in range(size))), 1)
                reached = set(places)
                for _ in range(size):
                    reached = reached | {j for i in reached for j in range(size) if web[0][i][j] > 0}
                self.same(end_places(web, start), tuple(sorted(reached)))
        self.same(end_places(web=FORK, start=no_load(3)), ())

    def test_refusals(self):
        good = [("web", FORK), ("start", ONE), ("target", ((0, 1, 3), 4))]
        bad = {"start": bad_loads(3), "target": bad_loads(3)}
        check_refusals(self, can_come, good, bad)
        check_refusals(self, need_of, good, bad)
        check_refusals(self, end_places, good[:2], {"start": bad_loads(3)})


class Firsts(unittest.TestCase, Same, CheckNoRoom):
    def test_is_end_and_by_first(self):
        dealt = {True: 0, False: 0, None: 0}
        for web, start, rooms, target in targets(33):
            ends = is_within(target, rooms) and can_come(web, start, target)
            self.same(is_end(web, start, rooms, target), ends)
            if not can_stay(web, start, rooms):
                dealt[None] += 1
                self.same(ends, False)
                self.refuses_room(web, start, rooms, by_first, web, start, rooms, target)
                continue
            dealt[ends] += 1
            end = first_end(web, start, rooms)
            # By (G3): exactly the loads within the rooms that can be come to from the first end.
            self.same(ends, is_within(target, rooms) and can_come(web, end, target))
            if ends:
                tables = by_first(web, start, rooms, target)
                self.same(tables, (table_of(web, start, rooms), table_of(web, end, target)))
                self.same(added(*tables), table_of(web, start, target))
            else:
                refusal = raised(by_first, web, start, rooms, target)
                self.same(fields_of(refusal), ("NotUsable", ("target", -1)))
        self.assertGreater(min(dealt.values()), 25)

    def test_told(self):
        rooms = ((0, 1, 2), 2)
        self.same(is_end(web=FORK, start=ONE, rooms=rooms, target=((0, 0, 1), 1)), True)
        self.same(is_end(FORK, ONE, rooms, WIDE), True)
        self.same(is_end(FORK, ONE, rooms, ((0, 1, 3), 4)), True)
        self.same(is_end(FORK, ONE, rooms, ((0, 2, 1), 3)), False)
        self.same(is_end(FORK, ONE, rooms, ONE), False)
        self.same(is_end(FORK, ONE, rooms, ((0, 0, 1), 2)), False)
        self.same(is_end(FORK, ONE, ((0, 4, 1), 4), ((0, 3, 1), 4)), False)
        self.same(by_first(web=FORK, start=ONE, rooms=rooms, target=WIDE), (((1, 0, 0), 1), no_load(3)))

    def test_no_room_comes_ahead_of_the_target(self):
        self.same(fields_of(raised(by_first, FORK, ONE, TIGHT, ONE)), ("NoRoom", ((2,), (1,))))
        self.same(fields_of(raised(by_first, FORK, ONE, TIGHT, None)), ("NotUsable", ("target", -1)))
        self.same(fields_of(raised(by_first, FORK, ONE, WIDE, ONE)), ("NotUsable", ("target", -1)))
        self.same(is_end(FORK, ONE, TIGHT, ONE), False)

    def test_refusals(self):
        good = [("web", FORK), ("start", ONE), ("rooms", ((0, 1, 2), 2)), ("target", ((0, 0, 1), 1))]
        bad = {"start": bad_loads(3), "rooms": bad_loads(3), "target": bad_loads(3)}
        check_refusals(self, is_end, good, bad)
        check_refusals(self, by_first, good, bad)


class RoomsObjects(unittest.TestCase, Same, CheckNoRoom):
    def test_methods_are_the_functions(self):
        for web, start, rooms in cases(34, 60):
            house = Rooms(web, start, rooms)
            given = (web, start, rooms)
            self.same(house.given(), given)
            before = repr(vars(house))
            self.same(house.fits(), can_stay(*given))
            self.same(house.find_gaps(), gaps_of(*given))
            self.same(house.find_share(), greatest_share(*given))
            self.same(house.find_paper(), room_paper(*given))
            self.same(house.judge(house.find_paper()), can_stay(*given))
            self.same(house.judge(thing=house.find_paper()), can_stay(*given))
            for place in range(size_of(web)):
                self.same(house.find_help(place), least_more(*given, place))
            self.same(house.find_help(place=0), least_more(*given, 0))
            self.same(house.takes_end(rooms), is_end(*given, rooms))
            self.same(house.takes_end(target=start), is_end(*given, start))
            if house.fits():
                self.same(house.find_table(), table_of(*given))
                self.same(house.find_end(), first_end(*given))
                self.same(house.find_left(), room_left(*given))
                self.same(house.find_need(), weight_of(table_of(*given)))
            else:
                for method in (house.find_table, house.find_end, house.find_left, house.find_need):
                    self.refuses_room(web, start, rooms, method)
            self.assertEqual(repr(vars(house)), before)

    def test_and_more_and_with_fewer(self):
        for web, start, rooms in cases(35, 40):
            house = Rooms(web=web, start=start, rooms=rooms)
            more = house.and_more(rooms)
            self.assertIs(type(more), Rooms)
            self.same(more.given(), (web, added(start, rooms), rooms))
            self.same(house.and_more(extra=start).given(), (web, scaled(start, (2, 1)), rooms))
            half = scaled(rooms, (1, 2))
            fewer = house.with_fewer(half)
            self.assertIs(type(fewer), Rooms)
            self.same(fewer.given(), (web, start, half))
            self.same(house.with_fewer(fewer=rooms).given(), (web, start, rooms))
            self.same(house.with_fewer(no_load(size_of(web))).given(), (web, start, no_load(size_of(web))))
            self.assertIsNot(house.and_more(no_load(size_of(web))), house)
            self.same(house.given(), (web, start, rooms))

    def test_each_class_has_its_methods_itself(self):
        for name in ("given", "fits", "find_table", "find_end", "find_left", "find_need", "find_gaps", "find_help",
                     "find_share", "find_paper", "judge", "takes_end", "and_more", "with_fewer"):
            self.assertIn(name, vars(Rooms))

    def test_refusals(self):
        good = [("web", FORK), ("start", ONE), ("rooms", WIDE)]
        check_refusals(self, Rooms, good, {"web": WRONG_WEBS, "start": bad_loads(3), "rooms": bad_loads(3)})
        house = Rooms(FORK, ONE, WIDE)
        above = [((1, 0, 0), 10 ** 12), ((0, 1, 1), 1), ((0, 0, 2), 3)]
        for method, name, wrong in (
            (house.find_help, "place", bad_places(3)), (house.takes_end, "target", bad_loads(3)),
            (house.and_more, "extra", bad_loads(3)), (house.with_fewer, "fewer", bad_loads(3) + above),
        ):
            for thing in wrong:
                self.same(fields_of(raised(method, thing)), ("NotUsable", (name, -1)))
        self.refuses_paper("shape", -1, house.judge, None)
        self.refuses_paper("over", 0, house.judge, ("table", no_load(3)))
        self.same(house.given(), (FORK, ONE, WIDE))

    def test_neither_raises_no_room(self):
        house = Rooms(TURN, ((1, 0), 1), no_load(2))
        self.same(house.and_more(((1, 1), 1)).given(), (TURN, ((2, 1), 1), no_load(2)))
        self.same(Rooms(ALONE, ((1,), 1), ((1,), 1)).with_fewer(((0,), 1)).fits(), False)
        for web in (HALVES, BOARD, LADDER):
            size = size_of(web)
            self.same(Rooms(web, unit_load(size, 0), no_load(size)).fits(), False)
            gaps = Rooms(web, unit_load(size, 0), no_load(size)).find_gaps()
            for closed, barred in gaps:
                self.assertTrue(set(barred) <= set(slow_fleeting(web)) and closed in slow_lots(web))
                self.assertGreater(slow_gap(unit_load(size, 0), no_load(size), slow_hope(web, closed, barred)), 0)
