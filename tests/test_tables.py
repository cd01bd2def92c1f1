"""Stage 4: growing, the table, the first end, more start and fewer rooms."""

import random
import unittest
from fractions import Fraction

from stayorgo.compares import is_within
from stayorgo.ends import first_end, room_left, with_less, with_more
from stayorgo.errors import NoRoom
from stayorgo.growing import growth_of
from stayorgo.loads import added, no_load, scaled, taken, unit_load, weight_of
from stayorgo.tables import can_stay, table_of

from tests.support import (
    ALONE, BOARD, CIRCLE, FORK, HALVES, LADDER, ONE, THREE_LOTS, TURN, TWO_LOTS, WEBS, Same, bad_loads, check_refusals,
    comes_values, fields_of, is_table, load_of_values, make_load, raised, random_load, random_web, size_of, slow_end,
    slow_fleeting, slow_flow, slow_gap, slow_hope, slow_lots, slow_table, stay_first, values,
)


def cases(seed, many=150):
    """Triples (web, start, rooms), with tables and with none."""
    dice = random.Random(seed)
    webs = list(WEBS) + [random_web(dice) for _ in range(20)]
    for turn in range(many):
        web = webs[turn % len(webs)]
        start = random_load(dice, size_of(web))
        rooms = random_load(dice, size_of(web), dice.choice((1, 3, 12)), dice.choice((0.1, 0.5)))
        if dice.random() < 0.2 and weight_of(rooms)[0] > 0:
            factor = Fraction(*weight_of(start)) / Fraction(*weight_of(rooms))
            rooms = load_of_values([factor * number for number in values(rooms)])
        yield web, start, rooms


def slow_growth(web, start, rooms):
    """Growing, by the words of the document."""
    first, room = values(start), values(rooms)
    held, told, passes = (), [], [Fraction(0)] * size_of(web)
    while True:
        comes = comes_values(web, first, passes)
        more = [i for i in range(size_of(web)) if i not in held and comes[i] > room[i]]
        if not more:
            return tuple(told)
        held = tuple(sorted(list(held) + more))
        told.append(held)
        if any(set(lot) <= set(held) for lot in slow_lots(web)):
            return tuple(told)
        passes = slow_flow(web, held, [one - other for one, other in zip(first, room)])


def holds_lot(web, sets):
    return bool(sets) and any(set(lot) <= set(sets[-1]) for lot in slow_lots(web))


class CheckNoRoom:
    """Mixed into test cases: what NoRoom tells, put into the equations of hopes."""

    def refuses_room(self, web, start, rooms, function, *arguments):
        refusal = raised(function, *arguments)
        self.assertIs(type(refusal), NoRoom, (function, arguments))
        self.assertIn(refusal.closed, slow_lots(web))
        self.assertIs(type(refusal.barred), tuple)
        self.assertTrue(set(refusal.barred) <= set(slow_fleeting(web)))
        self.assertEqual(list(refusal.barred), sorted(set(refusal.barred)))
        self.assertGreater(slow_gap(start, rooms, slow_hope(web, refusal.closed, refusal.barred)), 0)


class Growing(unittest.TestCase, Same):
    def test_growth(self):
        lots = {True: 0, False: 0}
        for web, start, rooms in cases(23):
            sets = slow_growth(web, start, rooms)
            self.same(growth_of(web, start, rooms), sets)
            self.same(growth_of(web=web, start=start, rooms=rooms), sets)
            self.same(can_stay(web, start, rooms), not holds_lot(web, sets))
            lots[holds_lot(web, sets)] += 1
        self.assertGreater(min(lots.values()), 20)

    def test_growth_told(self):
        self.same(growth_of(FORK, ONE, ONE), ())
        self.same(growth_of(TURN, no_load(2), no_load(2)), ())
        self.same(growth_of(ALONE, ((1,), 1), ((1,), 2)), ((0,),))
        self.same(growth_of(TURN, ((1, 0), 1), no_load(2)), ((0,), (0, 1)))
        self.same(growth_of(BOARD, ((1, 0, 0, 0), 1), ((0, 0, 0, 1), 1)), ((0,), (0, 1), (0, 1, 2)))
        self.same(growth_of(THREE_LOTS, ((0, 0, 0, 0, 3), 1), ((0, 0, 0, 0, 2), 1)), ((4,),))
        # Both lots fill up in one round: the set holds them and the fleeting place.
        self.same(growth_of(FORK, ONE, no_load(3)), ((0,), (0, 1, 2)))

    def test_refusals(self):
        good = [("web", FORK), ("start", ONE), ("rooms", ((0, 1, 3), 4))]
        bad = {"start": bad_loads(3), "rooms": bad_loads(3)}
        for function in (growth_of, can_stay, table_of, first_end, room_left):
            check_refusals(self, function, good, bad)


class Tables(unittest.TestCase, Same, CheckNoRoom):
    def test_tables(self):
        tables = 0
        for web, start, rooms in cases(24):
            table = slow_table(web, start, rooms)
            self.same(can_stay(web, start, rooms), table is not None)
            if table is None:
                for function in (table_of, first_end, room_left):
                    self.refuses_room(web, start, rooms, function, web, start, rooms)
                continue
            tables += 1
            end = slow_end(web, start, table)
            self.same(table_of(web, start, rooms), table)
            self.assertTrue(is_table(web, values(start), values(rooms), values(table)))
            self.same(first_end(web, start, rooms), end)
            self.same(room_left(web, start, rooms), taken(rooms, end))
            self.same(weight_of(end), weight_of(start))
            growth = growth_of(web, start, rooms)
            last = growth[-1] if growth else ()
            self.assertEqual(tuple(i for i, top in enumerate(table[0]) if top > 0), last)
            for place in last:
                self.assertEqual(values(end)[place], values(rooms)[place])
        self.assertTrue(40 < tables < 120, tables)

    def test_by_name(self):
        self.same(can_stay(rooms=ONE, start=ONE, web=FORK), True)
        self.same(table_of(rooms=ONE, start=ONE, web=FORK), no_load(3))
        self.same(first_end(rooms=ONE, start=ONE, web=FORK), ONE)
        self.same(room_left(rooms=ONE, start=ONE, web=FORK), no_load(3))

    def test_rooms_just_enough_and_a_bit_too_small(self):
        bit = (1, 10 ** 6)
        for web, start, rooms in cases(25, 80):
            if not can_stay(web, start, rooms):
                continue
            table, end = table_of(web, start, rooms), first_end(web, start, rooms)
            self.same(table_of(web, start, end), table)
            self.same(room_left(web, start, end), no_load(size_of(web)))
            for place in range(size_of(web)):
                numbers = values(end)
                if numbers[place] > 0:
                    numbers[place] -= Fraction(*bit) * numbers[place]
                    less = load_of_values(numbers)
                    self.same(can_stay(web, start, less), False)
                    self.refuses_room(web, start, less, table_of, web, start, less)
        self.same(table_of(FORK, ONE, ((0, 1, 3), 4)), ((4, 1, 0), 4))
        self.same(can_stay(FORK, ONE, ((0, 250000, 749999), 10 ** 6)), False)
        self.same(can_stay(FORK, ONE, ((0, 500001, 499999), 10 ** 6)), False)
        self.same(can_stay(FORK, ONE, ((0, 499999, 500001), 10 ** 6)), True)

    def test_starts_of_any_weight(self):
        for web in WEBS:
            size = size_of(web)
            nothing = no_load(size)
            self.same(table_of(web, nothing, nothing), nothing)
            self.same(first_end(web, nothing, unit_load(size, 0)), nothing)
            for lot in slow_lots(web):
                there = unit_load(size, lot[0])
                self.same(table_of(web, there, there), nothing)
                self.same(can_stay(web, there, nothing), False)
                self.refuses_room(web, there, nothing, table_of, web, there, nothing)
                self.same(can_stay(web, scaled(there, (7, 2)), scaled(there, (10, 3))), False)
                if len(lot) > 1:
                    rooms = added(there, scaled(unit_load(size, lot[1]), (5, 2)))
                    self.same(can_stay(web, scaled(there, (7, 2)), rooms), True)

    def test_no_room_goes_by_a_last_set_that_holds_a_lot(self):
        start, rooms = unit_load(5, 0), ((0, 0, 5, 0, 0), 1)
        self.refuses_room(TWO_LOTS, start, rooms, table_of, TWO_LOTS, start, rooms)
        self.same(fields_of(raised(table_of, FORK, ONE, ((0, 10, 3), 10))), ("NoRoom", ((2,), (1,))))
        self.same(fields_of(raised(table_of, TURN, ((1, 0), 1), ((1, 0), 2))), ("NoRoom", ((0, 1), ())))

    def test_factors(self):
        for web, start, rooms in cases(26, 60):
            for factor in ((3, 1), (2, 7)):
                more, wider = scaled(start, factor), scaled(rooms, factor)
                self.same(can_stay(web, more, wider), can_stay(web, start, rooms))
                if can_stay(web, start, rooms):
                    self.same(table_of(web, more, wider), scaled(table_of(web, start, rooms), factor))
                    self.same(first_end(web, more, wider), scaled(first_end(web, start, rooms), factor))

    def test_less_start_and_more_rooms(self):
        dice = random.Random(27)
        for web, start, rooms in cases(27, 60):
            if can_stay(web, start, rooms):
                less = load_of_values([number * dice.randint(0, 3) / 3 for number in values(start)])
                wider = added(rooms, random_load(dice, size_of(web)))
                self.assertTrue(is_within(table_of(web, less, wider), table_of(web, start, rooms)))

    def test_stay_first_comes_near_the_table(self):
        for web, start, rooms in cases(28, 40):
            course = stay_first(web, start, rooms, 30)
            if not can_stay(web, start, rooms):
                continue
            table = values(table_of(web, start, rooms))
            for gone in course:
                self.assertTrue(all(one <= other for one, other in zip(gone, table)))
        course = stay_first(HALVES, ((1, 0), 1), make_load([1, 1], 2), 40)
        self.assertLess(1 - course[-1][0], Fraction(1, 10 ** 11))
        self.same(table_of(HALVES, ((1, 0), 1), ((1, 1), 2)), ((1, 0), 1))


class Ends(unittest.TestCase, Same, CheckNoRoom):
    def test_with_more(self):
        dice = random.Random(29)
        for web, start, rooms in cases(29):
            extra = random_load(dice, size_of(web), 3)
            total = added(start, extra)
            if not can_stay(web, total, rooms):
                self.refuses_room(web, total, rooms, with_more, web, start, rooms, extra)
                continue
            told = with_more(web, start, rooms, extra)
            self.same(told, (table_of(web, total, rooms), first_end(web, total, rooms)))
            self.same(with_more(web=web, start=start, rooms=rooms, extra=extra), told)
            # By (G3): the table ahead, and the one of what is more in the room left.
            left = room_left(web, start, rooms)
            self.same(told[0], added(table_of(web, start, rooms), table_of(web, extra, left)))
            self.same(told[1], added(first_end(web, start, rooms), first_end(web, extra, left)))

    def test_more_has_a_table_exactly_if_it_has_one_in_the_room_left(self):
        dice = random.Random(30)
        for web, start, rooms in cases(30):
            if can_stay(web, start, rooms):
                extra = random_load(dice, size_of(web), 3)
                left = room_left(web, start, rooms)
                self.same(can_stay(web, added(start, extra), rooms), can_stay(web, extra, left))

    def test_with_less(self):
        dice = random.Random(31)
        for web, start, rooms in cases(31):
            fewer = load_of_values([number * dice.randint(1, 4) / 4 for number in values(rooms)])
            if not can_stay(web, start, fewer):
                self.refuses_room(web, start, fewer, with_less, web, start, rooms, fewer)
                continue
            told = with_less(web, start, rooms, fewer)
            self.same(told, (table_of(web, start, fewer), first_end(web, start, fewer)))
            self.same(with_less(web=web, start=start, rooms=rooms, fewer=fewer), told)
            end = first_end(web, start, rooms)
            self.same(told[0], added(table_of(web, start, rooms), table_of(web, end, fewer)))
            self.same(told[1], first_end(web, end, fewer))

    def test_the_bounds_of_fewer(self):
        rooms = ((1, 0, 2), 2)
        self.same(with_less(FORK, ONE, rooms, rooms), (((2, 1, 0), 4), ((1, 0, 1), 2)))
        self.same(with_less(FORK, no_load(3), rooms, no_load(3)), (no_load(3), no_load(3)))
        self.same(with_more(FORK, ONE, rooms, no_load(3)), (table_of(FORK, ONE, rooms), first_end(FORK, ONE, rooms)))

    def test_refusals(self):
        good = [("web", FORK), ("start", ONE), ("rooms", ((1, 0, 2), 2)), ("extra", no_load(3))]
        bad = {"start": bad_loads(3), "rooms": bad_loads(3), "extra": bad_loads(3)}
        check_refusals(self, with_more, good, bad)
        above = [((0, 1, 0), 10 ** 12), ((1, 0, 1), 1), ((11, 0, 20), 20), ((0, 0, 3), 2)]
        good = good[:3] + [("fewer", ((0, 0, 1), 1))]
        bad = {"start": bad_loads(3), "rooms": bad_loads(3), "fewer": bad_loads(3) + above}
        check_refusals(self, with_less, good, bad)

    def test_parameters_come_ahead_of_no_room(self):
        tight = no_load(3)
        self.same(fields_of(raised(with_more, FORK, ONE, tight, None)), ("NotUsable", ("extra", -1)))
        self.same(fields_of(raised(with_less, FORK, ONE, tight, ONE)), ("NotUsable", ("fewer", -1)))
        self.same(fields_of(raised(with_less, FORK, ONE, tight, tight))[0], "NoRoom")
        # The start alone need not have a table: NoRoom is told for the sum and the rooms.
        self.same(fields_of(raised(with_more, FORK, ONE, tight, tight))[0], "NoRoom")
        for web in (CIRCLE, LADDER):
            size = size_of(web)
            start = unit_load(size, 0)
            self.refuses_room(web, added(start, start), start, with_more, web, start, start, start)
