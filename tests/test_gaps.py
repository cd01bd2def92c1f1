"""Stage 5: hopes, gaps, more rooms."""

import random
import unittest
from fractions import Fraction

from stayorgo.compares import is_within
from stayorgo.ends import first_end
from stayorgo.gaps import gap_of, gaps_of, lost_of, some_gap
from stayorgo.growing import growth_of
from stayorgo.hopes import hope_of
from stayorgo.kinds import is_load
from stayorgo.loads import added, no_load, scaled, unit_load, weight_of
from stayorgo.morerooms import greatest_share, least_more
from stayorgo.quotients import is_less, minus
from stayorgo.tables import can_stay, table_of

from tests.support import (
    ALONE, BOARD, FORK, HALVES, LADDER, ONE, THREE_LOTS, TURN, TWO_LOTS, WEBS, Same, bad_loads, bad_places, bad_sets,
    chance, check_refusals, load_of_values, make_quotient, product_values, random_web, size_of, slow_fleeting,
    slow_gap, slow_hope, slow_hopes, slow_lots, stay_first, subsets, value, values,
)
from tests.test_tables import cases


def with_room(rooms, place, more):
    return added(rooms, scaled(unit_load(len(rooms[0]), place), more))


def bad_lots(web):
    size = size_of(web)
    sets = [places for places in subsets(range(size)) if places not in slow_lots(web)]
    return bad_sets(size) + sets


class Hopes(unittest.TestCase, Same):
    def webs(self):
        dice = random.Random(26)
        return WEBS + tuple(random_web(dice) for _ in range(25))

    def test_hopes_hold_their_equations(self):
        for web in self.webs():
            lots, fleeting = slow_lots(web), slow_fleeting(web)
            for lot in lots:
                for barred in subsets(fleeting):
                    hope = hope_of(web, lot, barred)
                    self.assertTrue(is_load(size_of(web), hope))
                    numbers = values(hope)
                    for place in range(size_of(web)):
                        steps = sum(chance(web, place, j) * numbers[j] for j in range(size_of(web)))
                        if place in lot:
                            self.assertEqual(numbers[place], 1)
                        elif place in barred or place not in fleeting:
                            self.assertEqual(numbers[place], 0)
                        else:
                            self.assertEqual(numbers[place], steps)
                    self.same(hope, load_of_values(slow_hope(web, lot, barred)))
                    self.same(hope_of(web=web, closed=lot, barred=barred), hope)

    def test_hopes_of_all_lots(self):
        for web in self.webs():
            fleeting = slow_fleeting(web)
            for barred in subsets(fleeting):
                total = no_load(size_of(web))
                for lot in slow_lots(web):
                    total = added(total, hope_of(web, lot, barred))
                    self.assertTrue(is_within(hope_of(web, lot, fleeting), hope_of(web, lot, barred)))
                    self.assertTrue(is_within(hope_of(web, lot, barred), hope_of(web, lot, ())))
                ones = ((1,) * size_of(web), 1)
                self.assertTrue(is_within(total, ones))
                if not barred:
                    self.same(total, ones)

    def test_refusals(self):
        for web, barred in ((BOARD, (0, 2)), (TWO_LOTS, (0,)), (THREE_LOTS, ()), (HALVES, ())):
            lot = slow_lots(web)[-1]
            held = [(place,) for other in slow_lots(web) for place in other] + [lot, tuple(range(size_of(web)))]
            good = [("web", web), ("closed", lot), ("barred", barred)]
            check_refusals(self, hope_of, good, {"closed": bad_lots(web), "barred": bad_sets(size_of(web)) + held})
        good = [("web", HALVES), ("closed", (0, 1)), ("barred", ())]
        check_refusals(self, hope_of, good, {"closed": [(False, True), (0, True)]})


class Gaps(unittest.TestCase, Same):
    def test_gaps_through_all_hopes(self):
        signs = set()
        for web, start, rooms in cases(27, 100):
            above, lost = [], {lot: Fraction(0) for lot in slow_lots(web)}
            for pair, hope in slow_hopes(web):
                gap = slow_gap(start, rooms, hope)
                signs.add((gap > 0) - (gap < 0))
                self.same(gap_of(web, start, rooms, *pair), make_quotient(gap))
                if gap > 0:
                    above.append(pair)
                    lost[pair[0]] = max(lost[pair[0]], gap)
            self.same(gaps_of(web, start, rooms), tuple(above))
            self.same(lost_of(web, start, rooms), tuple(make_quotient(lost[lot]) for lot in slow_lots(web)))
            self.same(can_stay(web, start, rooms), not above)
            pair = some_gap(web, start, rooms)
            if above:
                self.assertIn(pair, above)
                self.assertIs(type(pair), tuple)
            else:
                self.assertIsNone(pair)
        self.assertEqual(signs, {-1, 0, 1})

    def test_at_a_gap_of_nought(self):
        tight = ((0, 1, 3), 4)
        self.same(gap_of(FORK, ONE, tight, (2,), ()), (0, 1))
        self.same(gap_of(FORK, ONE, tight, (2,), (1,)), (-1, 4))
        self.same(gaps_of(FORK, ONE, tight), ())
        self.same(some_gap(FORK, ONE, tight), None)
        self.same(lost_of(FORK, ONE, tight), ((0, 1),))
        self.same(lost_of(THREE_LOTS, no_load(5), no_load(5)), ((0, 1), (0, 1), (0, 1)))

    def test_by_name(self):
        rooms = ((0, 10, 3), 10)
        self.same(gap_of(web=FORK, start=ONE, rooms=rooms, closed=(2,), barred=(1,)), (1, 5))
        self.same(gaps_of(web=FORK, start=ONE, rooms=rooms), (((2,), (1,)),))
        self.same(some_gap(web=FORK, start=ONE, rooms=rooms), ((2,), (1,)))
        self.same(lost_of(web=FORK, start=ONE, rooms=rooms), ((1, 5),))

    def test_each_lot_in_the_last_set_past_what_is_left_out(self):
        for web, start, rooms in cases(28, 100):
            if can_stay(web, start, rooms):
                continue
            last = growth_of(web, start, rooms)[-1]
            barred = tuple(place for place in slow_fleeting(web) if place not in last)
            lots = [lot for lot in slow_lots(web) if set(lot) <= set(last)]
            self.assertTrue(lots)
            for lot in lots:
                self.assertGreater(gap_of(web, start, rooms, lot, barred)[0], 0)

    def test_lost_is_what_stay_first_lets_go_on_in_the_lots(self):
        start, rooms = ((1, 0, 0, 0, 0), 1), ((0, 0, 1, 1, 1), 5)
        gone = stay_first(TWO_LOTS, start, rooms, 400)
        going = [one - other for one, other in zip(gone[-1], gone[-2])]
        for lot, lost in zip(slow_lots(TWO_LOTS), lost_of(TWO_LOTS, start, rooms)):
            self.assertGreater(lost[0], 0)
            self.assertLess(abs(sum(going[place] for place in lot) - value(lost)), Fraction(1, 10 ** 9))

    def test_refusals(self):
        good = [("web", TWO_LOTS), ("start", unit_load(5, 0)), ("rooms", no_load(5))]
        bad = {"start": bad_loads(5), "rooms": bad_loads(5)}
        for function in (gaps_of, some_gap, lost_of, greatest_share):
            check_refusals(self, function, good, bad)
        more = {"closed": bad_lots(TWO_LOTS), "barred": bad_sets(5) + [(2,), (0, 3), (4,), (0, 1, 2)]}
        check_refusals(self, gap_of, good + [("closed", (2,)), ("barred", (0, 1))], {**bad, **more})
        check_refusals(self, least_more, good + [("place", 4)], {**bad, "place": bad_places(5)})


class MoreRooms(unittest.TestCase, Same):
    def test_least_more(self):
        kinds = {"there": 0, "none": 0, "some": 0}
        for web, start, rooms in cases(29, 100):
            gaps = [(slow_gap(start, rooms, hope), hope) for _, hope in slow_hopes(web)]
            gaps = [(gap, hope) for gap, hope in gaps if gap > 0]
            for place in range(size_of(web)):
                more = least_more(web, start, rooms, place)
                if not gaps:
                    kinds["there"] += 1
                    self.same(more, (0, 1))
                elif any(hope[place] == 0 for _, hope in gaps):
                    kinds["none"] += 1
                    self.same(more, None)
                    self.same(can_stay(web, start, with_room(rooms, place, (10 ** 9, 1))), False)
                else:
                    kinds["some"] += 1
                    self.same(more, make_quotient(max(gap / hope[place] for gap, hope in gaps)))
                    self.same(can_stay(web, start, with_room(rooms, place, more)), True)
                    less = make_quotient(value(more) * Fraction(10 ** 6 - 1, 10 ** 6))
                    self.same(can_stay(web, start, with_room(rooms, place, less)), False)
        self.assertGreater(min(kinds.values()), 15)

    def test_greatest_share(self):
        dealt = {"none": 0, "nought": 0, "below": 0, "above": 0}
        for web, start, rooms in cases(30, 120):
            share = greatest_share(web, start, rooms)
            if not any(start[0]):
                dealt["none"] += 1
                self.same(share, None)
                continue
            first, room = values(start), values(rooms)
            hopes = [(product_values(first, hope), product_values(room, hope)) for _, hope in slow_hopes(web)]
            self.same(share, make_quotient(min(there / coming for coming, there in hopes if coming > 0)))
            dealt["nought" if share[0] == 0 else "below" if is_less(share, (1, 1)) else "above"] += 1
            self.same(can_stay(web, scaled(start, share), rooms), True)
            bit = make_quotient(value(share) + Fraction(1, 10 ** 6))
            self.same(can_stay(web, scaled(start, bit), rooms), False)
            self.check_filled(web, scaled(start, share), rooms)
        self.assertGreater(min(dealt.values()), 2)

    def check_filled(self, web, start, rooms):
        """With the greatest share some hope has gap 0: there all is full, and what it bars is not passed."""
        end, table = values(first_end(web, start, rooms)), values(table_of(web, start, rooms))
        found = False
        for (_, barred), hope in slow_hopes(web):
            full = all(end[i] == values(rooms)[i] for i in range(size_of(web)) if hope[i] > 0)
            led = [i for i in barred if any(chance(web, i, j) > 0 and hope[j] > 0 for j in range(size_of(web)))]
            if slow_gap(start, rooms, hope) == 0:
                self.assertTrue(full and all(table[i] == 0 for i in led))
                found = True
        self.assertTrue(found)

    def test_told_and_by_name(self):
        self.same(least_more(web=FORK, start=ONE, rooms=((0, 10, 3), 10), place=2), (1, 5))
        self.same(greatest_share(web=FORK, start=ONE, rooms=((0, 10, 3), 10)), (3, 5))
        self.same(greatest_share(TURN, ((1, 0), 2), ((1, 1), 1)), (4, 1))
        self.same(greatest_share(ALONE, ((1,), 2), ((0,), 1)), (0, 1))
        self.same(least_more(ALONE, ((3,), 2), ((1,), 1), 0), (1, 2))

    def test_weight_of_what_is_lost_is_the_room_to_add(self):
        for web, start, rooms in cases(31, 60):
            lost = lost_of(web, start, rooms)
            wider = rooms
            for lot, gap in zip(slow_lots(web), lost):
                wider = with_room(wider, lot[0], gap)
            self.same(can_stay(web, start, wider), True)
            total = minus(weight_of(wider), weight_of(rooms))
            self.assertEqual(value(total), sum(value(gap) for gap in lost))
        self.same(can_stay(LADDER, unit_load(5, 0), no_load(5)), False)
        self.same(lost_of(LADDER, unit_load(5, 0), no_load(5)), ((1, 1),))
        self.same(lost_of(BOARD, unit_load(4, 0), ((0, 0, 1, 0), 4)), ((3, 4),))
