"""Stage 8 without wastes, stage 9: rooms beside allowances, wishes, passes, needs, ways by a middle, the class Wish."""

import random
import unittest
from fractions import Fraction

from stayorgo.arrows import closed_lots
from stayorgo.boths import can_both, spans
from stayorgo.compares import is_within
from stayorgo.loads import added, no_load, scaled, taken, unit_load, weight_of
from stayorgo.mosts import last_end, most_of
from stayorgo.needs import need_between, needs_of, round_trip
from stayorgo.passings import are_passes, left_by, lets_passes
from stayorgo.quotients import plus
from stayorgo.stepping import shares_of
from stayorgo.tables import can_stay
from stayorgo.wastes import trimmed, waste_of, wasted
from stayorgo.ways import goes_by, middle_need
from stayorgo.wishclasses import Wish
from stayorgo.wishes import is_wish, wish_need, wish_table

from tests.support import (
    ALONE, BOARD, CIRCLE, FORK, HALVES, LADDER, ONE, THREE_LOTS, TURN, TWO_LOTS, WEBS, Same, bad_amounts, bad_loads,
    bad_numbers, bad_places, bad_sets, bad_wishes, chance, check_refusals, comes_values, fields_of, go_walk,
    load_as_heavy, load_of_values, make_quotient, raised, random_load, random_walk, random_web, size_of, slow_end,
    slow_fleeting, slow_lots, slow_table, solve, stay_walk, sure_wishes, value, values, wish_cases,
)
from tests.test_tables import CheckNoRoom, cases
from tests.test_webs import WRONG_WEBS

LEFT = ((1, 0), 1)
EVEN = ((1, 1), 2)
LATER = ((0, 1, 3), 4)


def slow_need(table):
    return make_quotient(sum(values(table)))


class Boths(unittest.TestCase, Same, CheckNoRoom):
    def test_both(self):
        dice = random.Random(1)
        told = {True: 0, False: 0, None: 0}
        for web, start, rooms in cases(42, 100):
            table = slow_table(web, start, rooms)
            for allowance in self.allowances(dice, web, table):
                fits = table is not None and all(one <= other for one, other in zip(values(table), values(allowance)))
                told[None if table is None else fits] += 1
                self.same(can_both(web, start, rooms, allowance), fits)
                self.same(can_both(web=web, start=start, rooms=rooms, allowance=allowance), fits)
                for many in (0, 1, 4):
                    given = (web, start, rooms, allowance, many)
                    if table is None:
                        self.refuses_room(web, start, rooms, spans, *given)
                    elif not fits:
                        self.same(fields_of(raised(spans, *given)), ("NotUsable", ("allowance", -1)))
                    else:
                        self.check_spans(given)
        self.assertGreater(min(told.values()), 8)

    def allowances(self, dice, web, table):
        yield random_load(dice, size_of(web), 20, 0.1)
        if table is not None:
            yield table
            yield added(table, random_load(dice, size_of(web)))
            passed = [place for place, top in enumerate(table[0]) if top > 0]
            if passed:
                yield taken(table, ((tuple(int(place == passed[-1]) for place in range(size_of(web)))), table[1]))

    def check_spans(self, given):
        web, start, rooms, allowance, many = given
        stays = load_of_values(stay_walk(web, start, rooms, many).gone[-1])
        goes = load_of_values(go_walk(web, start, allowance, many).gone[-1])
        self.same(spans(*given), (stays, goes))
        self.same(spans(web=web, start=start, rooms=rooms, allowance=allowance, many=many), (stays, goes))
        self.assertTrue(is_within(stays, goes))

    def test_told(self):
        self.same(can_both(HALVES, LEFT, EVEN, LEFT), True)
        self.same(can_both(HALVES, LEFT, EVEN, ((0, 9), 1)), False)
        self.same(can_both(TURN, LEFT, no_load(2), ((9, 9), 1)), False)
        self.same(spans(HALVES, LEFT, EVEN, LEFT, 0), (no_load(2), no_load(2)))
        self.same(spans(HALVES, LEFT, EVEN, ((5, 5), 1), 2), (((3, 0), 4), ((3, 1), 2)))

    def test_refusals(self):
        good = [("web", HALVES), ("start", LEFT), ("rooms", EVEN), ("allowance", LEFT)]
        bad = {"start": bad_loads(2), "rooms": bad_loads(2), "allowance": bad_loads(2)}
        check_refusals(self, can_both, good, bad)
        check_refusals(self, spans, good + [("many", 2)], {**bad, "many": bad_numbers()})

    def test_no_room_stands_between_both_refusals_of_the_allowance(self):
        for allowance, many, name in ((None, 0, "allowance"), (no_load(2), None, "many"), (no_load(3), -1, "allowance")):
            told = fields_of(raised(spans, TURN, LEFT, no_load(2), allowance, many))
            self.same(told, ("NotUsable", (name, -1)))
        self.refuses_room(TURN, LEFT, no_load(2), spans, TURN, LEFT, no_load(2), no_load(2), 3)
        self.same(fields_of(raised(spans, HALVES, LEFT, EVEN, ((1, 0), 2), 3)), ("NotUsable", ("allowance", -1)))


class Wishes(unittest.TestCase, Same, CheckNoRoom):
    def test_wishes(self):
        told = {True: 0, False: 0}
        for web, start, wish in wish_cases(43, 150):
            table = slow_table(web, start, wish)
            told[table is not None] += 1
            self.same(is_wish(web, start, wish), table is not None)
            self.same(is_wish(web=web, start=start, thing=wish), table is not None)
            if table is None:
                self.refuses_room(web, start, wish, wish_table, web, start, wish)
                self.refuses_room(web, start, wish, wish_need, web, start, wish)
                continue
            self.same(wish_table(web, start, wish), table)
            self.same(wish_table(web=web, start=start, wish=wish), table)
            self.same(wish_need(web, start, wish), slow_need(table))
            self.same(wish_need(web=web, start=start, wish=wish), slow_need(table))
            # All rooms are filled in the end.
            self.same(slow_end(web, start, table), wish)
        self.assertGreater(min(told.values()), 15)

    def test_ends_of_rules_are_wishes(self):
        dice = random.Random(44)
        for web in WEBS:
            start = random_load(dice, size_of(web))
            for many in range(4):
                walk = random_walk(dice, web, start, many)
                kept = walk.kept[-1] if many else [Fraction(0)] * size_of(web)
                wish = load_of_values([one + other for one, other in zip(kept, walk.last)])
                self.same(is_wish(web, start, wish), True)
                need = value(wish_need(web, start, wish))
                self.assertLessEqual(need, sum(walk.gone[-1]))
            self.same(wish_table(web, start, start), no_load(size_of(web)))
            self.same(wish_need(web, start, start), (0, 1))

    def test_no_wishes(self):
        for thing in bad_loads(3) + [((1, 1, 0), 1), ((0, 0, 1), 2), no_load(3), ((1, 0), 1), ((1, 0, 0, 0), 1)]:
            self.same(is_wish(FORK, ONE, thing), False)
        self.same(is_wish(FORK, ONE, ((0, 1, 0), 1)), False)
        self.same(is_wish(FORK, ONE, ((0, 2, 1), 3)), False)
        self.same(is_wish(FORK, ONE, ((0, 1, 1), 2)), True)
        self.same(is_wish(FORK, no_load(3), no_load(3)), True)
        # With more room than the start weighs there is a table, but no wish.
        self.same((can_stay(FORK, ONE, ((0, 1, 2), 2)), is_wish(FORK, ONE, ((0, 1, 2), 2))), (True, False))

    def test_refusals(self):
        good = [("web", FORK), ("start", ONE), ("wish", LATER)]
        bad = {"start": bad_loads(3), "wish": bad_wishes(3)}
        for function in (wish_table, wish_need):
            check_refusals(self, function, good, bad)
        check_refusals(self, is_wish, good[:2] + [("thing", LATER)], {"start": bad_loads(3)})


def nothing_comes(web, start, passes, lot):
    """No start in the lot, no arrow into it from a fleeting place that is passed."""
    if any(start[0][place] for place in lot):
        return False
    return not any(passes[0][i] and web[0][i][j] for i in slow_fleeting(web) for j in lot)


def slow_fault(web, start, passes):
    comes = comes_values(web, values(start), values(passes))
    for place, number in enumerate(values(passes)):
        if comes[place] < number:
            return ("below", place)
    for k, lot in enumerate(slow_lots(web)):
        if all(passes[0][place] for place in lot) and nothing_comes(web, start, passes, lot):
            return ("lot", k)
    return None


class Passings(unittest.TestCase, Same):
    def check(self, web, start, thing):
        fault = slow_fault(web, start, thing)
        self.same(are_passes(web, start, thing), fault is None)
        self.same(are_passes(web=web, start=start, passes=thing), fault is None)
        end = None if fault is not None and fault[0] == "below" else slow_end(web, start, thing)
        self.same(left_by(web, start, thing), end)
        self.same(left_by(web=web, start=start, passes=thing), end)
        if fault is None:
            self.same(lets_passes(web, start, thing), end)
            self.same(lets_passes(web=web, start=start, thing=thing), end)
            self.same(trimmed(web, thing), slow_table(web, start, end))
        else:
            self.refuses_paper(fault[0], fault[1], lets_passes, web, start, thing)
        return fault and fault[0]

    def test_loads(self):
        dice = random.Random(45)
        told = {None: 0, "below": 0, "lot": 0}
        webs = list(WEBS) + [random_web(dice) for _ in range(15)]
        for turn in range(240):
            web = webs[turn % len(webs)]
            start = random_load(dice, size_of(web), 6, 0.6)
            told[self.check(web, start, random_load(dice, size_of(web), 2, 0.6))] += 1
            walk = random_walk(dice, web, start, dice.randint(0, 3))
            passes = load_of_values(walk.gone[-1])
            self.assertIsNone(self.check(web, start, passes))
            for lot in slow_lots(web):
                passes = added(passes, scaled(shares_of(web, lot), dice.choice(((0, 1), (1, 3), (2, 1)))))
                told[self.check(web, start, passes)] += 1
        self.assertGreater(min(told.values()), 30)

    def test_first_fault_is_told(self):
        zero = no_load(2)
        for start, thing, word, at in (
            (zero, ((1, 1), 1), "lot", 0), (zero, ((2, 1), 1), "below", 0), (zero, ((1, 2), 1), "below", 1),
            (LEFT, ((2, 0), 1), "below", 0), (LEFT, ((0, 1), 1), "below", 1), (((0, 1), 1), ((3, 1), 1), "below", 0),
        ):
            self.refuses_paper(word, at, lets_passes, TURN, start, thing)
        self.refuses_paper("below", 0, lets_passes, BOARD, unit_load(4, 3), ((1, 1, 0, 1), 1))
        self.refuses_paper("lot", 1, lets_passes, THREE_LOTS, unit_load(5, 1), ((0, 1, 2, 3, 3), 3))
        self.refuses_paper("lot", 2, lets_passes, THREE_LOTS, unit_load(5, 0), ((0, 0, 0, 0, 3), 7))
        # A lot that is passed at some of its places alone has a place below 0 or something that comes to it.
        self.same(lets_passes(TURN, LEFT, ((1, 0), 1)), ((0, 1), 1))
        self.same(lets_passes(FORK, ONE, ((1, 0, 7), 1)), EVEN_END)
        self.same(lets_passes(FORK, unit_load(3, 2), ((0, 0, 7), 1)), unit_load(3, 2))
        self.refuses_paper("lot", 0, lets_passes, FORK, ONE, ((0, 0, 7), 1))
        for thing in bad_loads(2):
            self.refuses_paper("load", -1, lets_passes, TURN, LEFT, thing)

    def test_refusals(self):
        good = [("web", FORK), ("start", ONE), ("passes", ((4, 1, 0), 4))]
        for function in (left_by, are_passes):
            check_refusals(self, function, good, {"start": bad_loads(3), "passes": bad_loads(3)})
        check_refusals(self, lets_passes, good[:2] + [("thing", ((4, 1, 0), 4))], {"start": bad_loads(3)})
        self.same(fields_of(raised(lets_passes, FORK, None, None)), ("NotUsable", ("start", -1)))


EVEN_END = ((0, 1, 1), 2)


def reached(web, here, there):
    """The places at which a walk from here may be before it is at there."""
    held = {here} - {there}
    for _ in range(size_of(web)):
        held = held | {j for i in held for j in range(size_of(web)) if web[0][i][j] and j != there}
    return sorted(held)


def slow_between(web, here, there):
    """The need by its own equations: 0 there, elsewhere one step and the mean of the needs from the next places."""
    places = reached(web, here, there)
    matrix = [[(i == j) - chance(web, i, j) for j in places] for i in places]
    found = solve(matrix, [1] * len(places))
    return None if found is None else dict(zip(places, found)).get(here, Fraction(0))


class Needs(unittest.TestCase, Same):
    def test_needs(self):
        dice = random.Random(46)
        told = {True: 0, False: 0}
        for web in list(WEBS) + [random_web(dice) for _ in range(30)]:
            places = range(size_of(web))
            needs = needs_of(web)
            self.same(needs, needs_of(web=web))
            for here in places:
                for there in places:
                    need = slow_between(web, here, there)
                    told[need is None] += 1
                    need = None if need is None else make_quotient(need)
                    self.same(need_between(web, here, there), need)
                    self.same(need_between(web=web, here=here, there=there), need)
                    self.same(needs[here][there], need)
                    start, wish = unit_load(size_of(web), here), unit_load(size_of(web), there)
                    self.same(is_wish(web, start, wish), need is not None)
                    if need is not None:
                        self.same(wish_need(web, start, wish), need)
                    trip = None if None in (need, needs[there][here]) else plus(need, needs[there][here])
                    self.same(round_trip(web, here, there), trip)
                    self.same(round_trip(web=web, here=here, there=there), trip)
            self.assertIs(type(needs), tuple)
            self.assertEqual([(type(row), len(row)) for row in needs], [(tuple, size_of(web))] * size_of(web))
        self.assertGreater(min(told.values()), 50)

    def test_told(self):
        self.same(needs_of(ALONE), (((0, 1),),))
        self.same(round_trip(ALONE, 0, 0), (0, 1))
        self.same(round_trip(FORK, 0, 1), None)
        self.same(round_trip(FORK, 2, 0), None)
        self.same(round_trip(BOARD, 0, 2), None)
        self.same(need_between(CIRCLE, 0, 2), (2, 1))
        # Something comes there, but not surely: past it there is a lot, or it is never left.
        self.same(need_between(THREE_LOTS, 0, 1), None)
        self.same(need_between(THREE_LOTS, 0, 2), None)
        self.same(need_between(TWO_LOTS, 0, 1), None)

    def test_refusals(self):
        good = [("web", FORK), ("here", 0), ("there", 2)]
        bad = {"here": bad_places(3), "there": bad_places(3)}
        for function in (need_between, round_trip):
            check_refusals(self, function, good, bad)


class Ways(unittest.TestCase, Same, CheckNoRoom):
    def test_ways(self):
        dice = random.Random(47)
        told = {True: 0, False: 0, "first": 0, "second": 0}
        for web, start, middle in wish_cases(47, 200, 4):
            if dice.random() < 0.5:
                walk = random_walk(dice, web, middle, 2)
                wish = load_of_values([one + other for one, other in zip(walk.kept[-1], walk.last)])
            else:
                wish = load_as_heavy(dice, start)
            given = (web, start, middle, wish)
            first, then = slow_table(web, start, middle), slow_table(web, middle, wish)
            if first is None or then is None:
                told["first" if first is None else "second"] += 1
                pair = (start, middle) if first is None else (middle, wish)
                self.refuses_room(web, *pair, middle_need, *given)
                self.refuses_room(web, *pair, goes_by, *given)
                continue
            whole = slow_table(web, start, wish)
            self.same(middle_need(*given), (slow_need(first), slow_need(then), slow_need(whole)))
            self.same(middle_need(web=web, start=start, middle=middle, wish=wish), middle_need(*given))
            equal = [one + other for one, other in zip(values(first), values(then))] == values(whole)
            told[equal] += 1
            self.same(goes_by(*given), equal)
            self.same(goes_by(web=web, start=start, middle=middle, wish=wish), equal)
            more = value(slow_need(first)) + value(slow_need(then))
            self.assertGreaterEqual(more, value(slow_need(whole)))
            self.assertEqual(more == value(slow_need(whole)), equal)
            spared = all(any(first[0][i] == then[0][i] == 0 for i in lot) for lot in slow_lots(web))
            self.assertEqual(equal, spared)
        self.assertGreater(min(told.values()), 5)

    def test_told(self):
        self.same(middle_need(TURN, LEFT, ((0, 1), 1), LEFT), ((1, 1), (1, 1), (0, 1)))
        self.same(goes_by(FORK, ONE, EVEN_END, LATER), True)
        self.same(goes_by(FORK, ONE, ONE, LATER), True)
        self.same(goes_by(FORK, ONE, LATER, LATER), True)

    def test_no_room_of_the_first_pair_is_told_first(self):
        middle, wish = ((0, 1, 0), 1), ONE
        for function in (middle_need, goes_by):
            self.refuses_room(FORK, ONE, middle, function, FORK, ONE, middle, wish)
            self.refuses_room(FORK, EVEN_END, wish, function, FORK, ONE, EVEN_END, wish)

    def test_refusals(self):
        good = [("web", FORK), ("start", ONE), ("middle", EVEN_END), ("wish", LATER)]
        bad = {"start": bad_loads(3), "middle": bad_wishes(3), "wish": bad_wishes(3)}
        for function in (middle_need, goes_by):
            check_refusals(self, function, good, bad)
        # A middle that cannot be come to is told after a wish that is none.
        told = fields_of(raised(middle_need, FORK, ONE, ((0, 1, 0), 1), no_load(3)))
        self.same(told, ("NotUsable", ("wish", -1)))


class WishClass(unittest.TestCase, Same, CheckNoRoom):
    def test_methods(self):
        for web, start, wish, table in sure_wishes(48, 80):
            held = Wish(web, start, wish)
            self.same(held.told(), (web, start, wish))
            self.same(held.passed(), table)
            self.same(held.least_need, slow_need(table))
            pairs = [(lot, min(i for i in lot if not table[0][i])) for lot in slow_lots(web)]
            self.same(list(held.never_passed()), pairs)
            self.same([pair for pair in held.never_passed()], pairs)
            self.same(held.is_met_by(table), True)
            self.same(held.waste_by(table), ((0, 1),) * len(pairs))
            self.check_waste(held, web, start, table)
            self.same(held.told(), (web, start, wish))

    def check_waste(self, held, web, start, table):
        for k, lot in enumerate(slow_lots(web)):
            self.same(held.with_waste(lot), wasted(web, table, lot, (1, 1)))
            self.same(held.with_waste(closed=lot, factor=(3, 7)), wasted(web, table, lot, (3, 7)))
            comes = not nothing_comes(web, start, table, lot)
            more = held.with_waste(lot, factor=(5, 2))
            self.same(held.is_met_by(more), comes)
            if comes:
                waste = [(0, 1)] * len(slow_lots(web))
                waste[k] = (5, 2)
                self.same(held.waste_by(passes=more), tuple(waste))
            else:
                self.same(fields_of(raised(held.waste_by, more)), ("NotUsable", ("passes", -1)))

    def test_going_on_and_leads_by(self):
        dice = random.Random(49)
        for web, start, wish, table in sure_wishes(49, 80, 4):
            held = Wish(web, start, wish)
            walk = random_walk(dice, web, wish, 2)
            later = load_of_values([one + other for one, other in zip(walk.kept[-1], walk.last)])
            after = held.going_on(later)
            self.assertIs(type(after), Wish)
            self.same(after.told(), (web, wish, later))
            self.same(after.passed(), slow_table(web, wish, later))
            self.same(held.going_on(wish=later).told(), (web, wish, later))
            whole = Wish(web, start, later)
            self.same(whole.leads_by(wish), goes_by(web, start, wish, later))
            self.same(whole.leads_by(middle=wish), goes_by(web, start, wish, later))
            self.same(held.told(), (web, start, wish))

    def test_is_met_by_any_value(self):
        held = Wish(FORK, ONE, LATER)
        for thing in bad_loads(3) + [no_load(3), ONE, ((1, 0, 0), 1), ((1, 1, 0), 1), ((0, 0, 1), 1), held]:
            self.same(held.is_met_by(thing), False)
            self.same(fields_of(raised(held.waste_by, thing)), ("NotUsable", ("passes", -1)))
        self.same(held.is_met_by(((4, 1, 12), 4)), True)
        self.same(Wish(TURN, no_load(2), no_load(2)).is_met_by(((1, 1), 1)), False)

    def test_equal(self):
        one = Wish(FORK, ONE, LATER)
        self.assertTrue(one == Wish(FORK, ONE, LATER))
        self.assertFalse(one != Wish(FORK, ONE, LATER))
        wider = (((0, 1, 3), (0, 0, 4), (0, 0, 4)), 4)
        for other in (Wish(FORK, ONE, EVEN_END), Wish(FORK, LATER, LATER), Wish(wider, ONE, LATER), None, True, LATER,
                      one.told(), one.passed(), "", 0):
            self.assertFalse(one == other)
            self.assertTrue(one != other)
        self.assertFalse(Wish(FORK, ONE, ONE) == Wish(FORK, LATER, LATER))
        self.assertFalse(Wish(TURN, LEFT, LEFT) == Wish(HALVES, LEFT, LEFT))

    def test_no_room(self):
        self.refuses_room(FORK, ONE, ((0, 1, 0), 1), Wish, FORK, ONE, ((0, 1, 0), 1))
        held = Wish(FORK, ONE, LATER)
        self.refuses_room(FORK, LATER, ONE, held.going_on, ONE)
        self.refuses_room(FORK, ONE, ((0, 1, 0), 1), held.leads_by, ((0, 1, 0), 1))
        self.refuses_room(FORK, ((0, 0, 1), 1), LATER, held.leads_by, ((0, 0, 1), 1))

    def test_refusals(self):
        good = [("web", FORK), ("start", ONE), ("wish", LATER)]
        check_refusals(self, Wish, good, {"web": WRONG_WEBS, "start": bad_loads(3), "wish": bad_wishes(3)})
        held = Wish(FORK, ONE, LATER)
        for method, name, wrong in ((held.going_on, "wish", bad_wishes(3)), (held.leads_by, "middle", bad_wishes(3)),
                                    (held.with_waste, "closed", bad_sets(3) + [(), (0,), (1, 2), [2]])):
            for thing in wrong:
                self.same(fields_of(raised(method, thing)), ("NotUsable", (name, -1)))
                self.same(fields_of(raised(method, **{name: thing})), ("NotUsable", (name, -1)))
        for factor in bad_amounts():
            self.same(fields_of(raised(held.with_waste, (2,), factor=factor)), ("NotUsable", ("factor", -1)))
            self.same(fields_of(raised(held.with_waste, (1,), factor=factor)), ("NotUsable", ("closed", -1)))
        with self.assertRaises(TypeError):
            held.with_waste((2,), (1, 1))


class Consequences(unittest.TestCase, Same):
    def test_the_last_end_as_a_wish(self):
        dice = random.Random(50)
        for web in list(WEBS) + [random_web(dice) for _ in range(20)]:
            start, allowance = random_load(dice, size_of(web)), random_load(dice, size_of(web), 20, 0.2)
            most, end = most_of(web, start, allowance), last_end(web, start, allowance)
            self.same(are_passes(web, start, most), True)
            self.same(left_by(web, start, most), end)
            self.same(wish_table(web, start, end), trimmed(web, most))
            # From the end of passes within the allowance the last end can be come to.
            passes = load_of_values(go_walk(web, start, allowance, 2).gone[-1])
            self.same(is_wish(web, slow_end(web, start, passes), end), True)

    def test_wasted_is_accepted_where_something_comes(self):
        told = {True: 0, False: 0}
        for web, start, _, table in sure_wishes(51, 80):
            for lot in closed_lots(web):
                comes = not nothing_comes(web, start, table, lot)
                told[comes] += 1
                self.same(are_passes(web, start, wasted(web, table, lot, (2, 3))), comes)
        self.assertGreater(min(told.values()), 10)

    def test_needs_of_wishes(self):
        for web in (HALVES, BOARD, LADDER, CIRCLE):
            for here in range(size_of(web)):
                for there in range(size_of(web)):
                    need = need_between(web, here, there)
                    start, wish = unit_load(size_of(web), here), unit_load(size_of(web), there)
                    self.same(is_wish(web, start, wish), need is not None)
                    if need is not None:
                        self.same(Wish(web, start, wish).least_need, need)
                        self.same(weight_of(wish_table(web, start, wish)), need)
                        self.same(waste_of(web, wish_table(web, start, wish)), ((0, 1),) * len(slow_lots(web)))
