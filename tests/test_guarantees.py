"""The guarantees (G1) to (G12), by drawn webs, starts, rooms, allowances, wishes and rules."""

import random
import unittest
from fractions import Fraction

from stayorgo.backwards import backward
from stayorgo.brinkcourses import go_by, stay_by
from stayorgo.brinkends import go_end, is_least_go, stay_end
from stayorgo.cuts import cut_load, cut_web, filled_back
from stayorgo.coins import coin_end, coin_of, is_least_coin
from stayorgo.comings import can_come
from stayorgo.compares import is_within
from stayorgo.courses import go_course, stay_course
from stayorgo.deadlines import deadline_of, has_deadline
from stayorgo.ends import first_end, with_less, with_more
from stayorgo.forgettings import forgetting, forgetting_need, home_need, worst_need
from stayorgo.gaps import gaps_of, lost_of
from stayorgo.lastings import place_deadlines
from stayorgo.loads import added, load_from, no_load, taken, unit_load, weight_of
from stayorgo.lumpings import coarsest, lumped_load, lumped_web
from stayorgo.machinecourses import machine_course
from stayorgo.machineends import machine_end
from stayorgo.machineprices import machine_price
from stayorgo.machinepairs import is_sure
from stayorgo.mosts import last_end, most_of
from stayorgo.needs import round_trip
from stayorgo.passings import are_passes, left_by
from stayorgo.prices import go_price, stay_price
from stayorgo.rests import rest_course
from stayorgo.sending import is_walker_course
from stayorgo.settlings import settle
from stayorgo.spares import more_allowance, more_start
from stayorgo.splits import split_load, split_web
from stayorgo.stepping import shares_of, stepped
from stayorgo.tables import can_stay, table_of
from stayorgo.timecourses import time_course
from stayorgo.timeends import can_keep, time_passes
from stayorgo.twolines import alike_prices, first_fall, first_rise, two_lines
from stayorgo.twos import later, sooner
from stayorgo.behinds import behind
from stayorgo.wastes import trimmed, waste_of
from stayorgo.walkerpapers import lets_walkers, walker_paper
from stayorgo.wishes import is_wish, wish_table

from tests.support import (
    WEBS, Same, Walk, load_as_heavy, load_of_values, lot_cases, product_values, random_load, random_machine, random_web, raised, size_of,
    slow_fleeting, slow_hope, slow_lots, step_values, sure_machines, sure_wishes, value, values,
)
from tests.test_coins import random_prices
from tests.test_courses import random_brinks
from tests.test_cuts import left_sets
from tests.test_lumpings import all_parts, lumpable_web
from tests.test_machines import machine_walk
from tests.test_times import random_timetable, some_times
from tests.test_walkers import cases as walker_cases, open_arrows, overfull, stuck_sets, walk, walk_by


def drawn(seed, many, largest=4):
    """Tuples (dice, web, start, rooms); the rooms will do in about half of them."""
    dice = random.Random(seed)
    webs = [web for web in WEBS if size_of(web) <= largest] + [random_web(dice, largest) for _ in range(25)]
    for turn in range(many):
        web = webs[turn % len(webs)]
        start, rooms = random_load(dice, size_of(web), 3, 0.5), random_load(dice, size_of(web), 5, 0.3)
        yield dice, web, start, rooms


def any_within(dice, web, start, rooms, many):
    """Some rule that keeps within the rooms."""
    room = values(rooms)
    shares = (Fraction(0), Fraction(1, 2), Fraction(1))
    return Walk(web, start, many,
                lambda t, i, stands, kept, gone: stands - min(stands, room[i] - kept) * dice.choice(shares))


def any_allowed(dice, web, start, allowance, many):
    """Some rule within the allowance."""
    limit = values(allowance)
    shares = (Fraction(0), Fraction(1, 2), Fraction(1))
    return Walk(web, start, many, lambda t, i, stands, kept, gone: min(stands, limit[i] - gone) * dice.choice(shares))


def floating_loss(web, start, rooms, many):
    """What stands by stay-first after many moments, with floats."""
    size = size_of(web)
    rows = [[number / web[1] for number in row] for row in web[0]]
    stands = [float(one) for one in values(start)]
    left = [float(one) for one in values(rooms)]
    for _ in range(many):
        stays = [min(one, room) for one, room in zip(stands, left)]
        left = [room - stay for room, stay in zip(left, stays)]
        goes = [one - stay for one, stay in zip(stands, stays)]
        stands = [sum(goes[i] * rows[i][j] for i in range(size)) for j in range(size)]
    return stands


class Rooms(unittest.TestCase, Same):
    def at_most(self, one, other):
        self.assertTrue(all(low <= high for low, high in zip(one, other)), (one, other))

    def test_g1_tables_gaps_and_sure_rules(self):
        told = {True: 0, False: 0}
        for _, web, start, rooms in drawn(400, 200):
            fits = can_stay(web, start, rooms)
            told[fits] += 1
            self.same(gaps_of(web, start, rooms) == (), fits)
            self.same(all(one == (0, 1) for one in lost_of(web, start, rooms)), fits)
            if fits:
                self.assertTrue(is_within(stay_course(web, start, rooms, 8)[-1], table_of(web, start, rooms)))
                self.assertLess(sum(floating_loss(web, start, rooms, 3000)), 1e-6)
        self.assertGreater(min(told.values()), 50)

    def test_g1_each_sure_rule_within_the_rooms(self):
        # With its own end, and with somewhat more, as rooms.
        for dice, web, start, machine in sure_machines(401, 150):
            end, passes = machine_end(web, start, machine)
            for rooms in (end, added(end, random_load(dice, size_of(web)))):
                self.same(can_stay(web, start, rooms), True)
                self.assertTrue(is_within(table_of(web, start, rooms), passes))

    def test_g1_what_goes_on_for_ever(self):
        told = 0
        for dice, web, start, rooms in drawn(402, 120):
            lost = [value(one) for one in lost_of(web, start, rooms)]
            stands = floating_loss(web, start, rooms, 3000)
            for lot, least in zip(slow_lots(web), lost):
                told += least > 0
                self.assertAlmostEqual(sum(stands[place] for place in lot), float(least), 5)
            # No other rule lets less: what stands hopes for at least as much.
            walked = any_within(dice, web, start, rooms, 6).last
            for lot, least in zip(slow_lots(web), lost):
                self.assertGreaterEqual(product_values(walked, slow_hope(web, lot, ())), least)
            self.check_least_more(dice, web, start, rooms, lost)
        self.assertGreater(told, 40)

    def check_least_more(self, dice, web, start, rooms, lost):
        """Just so much room must be added."""
        more = [Fraction(0)] * size_of(web)
        for lot, least in zip(slow_lots(web), lost):
            more[dice.choice(lot)] += least
        self.same(can_stay(web, start, added(rooms, load_of_values(more))), True)
        for _ in range(4):
            extra = values(random_load(dice, size_of(web)))
            if sum(lost) > 0 and sum(extra) > 0:
                less = [one / sum(extra) * sum(lost) * Fraction(99, 100) for one in extra]
                self.same(can_stay(web, start, added(rooms, load_of_values(less))), False)

    def test_g2(self):
        for dice, web, start, rooms in drawn(403, 120):
            stays = stay_course(web, start, rooms, 6)
            for gone, least in zip(any_within(dice, web, start, rooms, 6).gone, stays):
                self.at_most(values(least), gone)

    def test_g3(self):
        told = {"come": 0, "other": 0, "more": 0, "less": 0}
        for dice, web, start, rooms in drawn(404, 500):
            if not can_stay(web, start, rooms):
                continue
            table, end, size = table_of(web, start, rooms), first_end(web, start, rooms), size_of(web)
            # Loads within the rooms: the ends of rules that begin with the first end, and others.
            kept = any_within(dice, web, end, rooms, 3)
            target = load_of_values([one + other for one, other in zip(kept.kept[-1], kept.last)])
            if dice.random() < 0.6:
                target = load_as_heavy(dice, start)
            if is_within(target, rooms):
                self.same(can_come(web, start, target), can_come(web, end, target))
                told["come" if can_come(web, end, target) else "other"] += 1
                if can_come(web, end, target):
                    self.same(table_of(web, start, target), added(table, table_of(web, end, target)))
            more, fewer = random_load(dice, size, 2), load_of_values([one / 2 for one in values(rooms)])
            left = taken(rooms, end)
            self.same(can_stay(web, added(start, more), rooms), can_stay(web, more, left))
            if can_stay(web, more, left):
                told["more"] += 1
                both = (added(table, table_of(web, more, left)), added(end, first_end(web, more, left)))
                self.same(with_more(web, start, rooms, more), both)
            self.same(can_stay(web, start, fewer), can_stay(web, end, fewer))
            if can_stay(web, end, fewer):
                told["less"] += 1
                both = (added(table, table_of(web, end, fewer)), first_end(web, end, fewer))
                self.same(with_less(web, start, rooms, fewer), both)
        self.assertGreater(min(told.values()), 5)


class Allowances(unittest.TestCase, Same):
    def test_g4_rules_within_an_allowance(self):
        for dice, web, start, allowance in drawn(405, 150):
            goes, most, last = go_course(web, start, allowance, 6), most_of(web, start, allowance), None
            last = last_end(web, start, allowance)
            self.same(weight_of(last), weight_of(start))
            self.assertTrue(is_within(goes[-1], most))
            rule = any_allowed(dice, web, start, allowance, 6)
            for gone, highest in zip(rule.gone, goes):
                self.assertTrue(all(low <= high for low, high in zip(gone, values(highest))))
            # Done at last: what still stands stays, too. The last end can be come to from this end.
            end = load_of_values([one + other for one, other in zip(rule.kept[-1], rule.last)])
            self.same(can_come(web, end, last), True)

    def test_g4_rooms_and_allowance(self):
        told = {True: 0, False: 0}
        for _, web, start, machine in sure_machines(406, 150):
            end, passes = machine_end(web, start, machine)
            goes, stays = go_course(web, start, passes, 5), stay_course(web, start, end, 5)
            told[goes == stays] += 1
            for low, some, high in zip(stays, machine_course(web, start, machine, 5), goes):
                self.assertTrue(is_within(low, some) and is_within(some, high))
        self.assertGreater(min(told.values()), 10)

    def test_g4_more_allowance_and_more_start(self):
        for dice, web, start, allowance in drawn(407, 150):
            most, last = most_of(web, start, allowance), last_end(web, start, allowance)
            more, size = random_load(dice, size_of(web)), size_of(web)
            left = added(taken(allowance, most), more)
            both = (added(most, most_of(web, last, left)), last_end(web, last, left))
            self.same(more_allowance(web, start, allowance, more), both)
            rest = taken(allowance, most)
            begin = added(last, more)
            both = (added(most, most_of(web, begin, rest)), last_end(web, begin, rest))
            self.same(more_start(web, start, allowance, more), both)
            self.same(more_start(web, start, allowance, no_load(size)), (most, last))

    def test_g5_passes_are_a_table_and_multiples_of_shares(self):
        wastes = {True: 0, False: 0}
        for _, web, start, machine in sure_machines(408, 150):
            end, passes = machine_end(web, start, machine)
            told = values(table_of(web, start, end))
            for lot, waste in zip(slow_lots(web), waste_of(web, passes)):
                told = [one + value(waste) * share for one, share in zip(told, values(shares_of(web, lot)))]
                passed = all(values(passes)[place] > 0 for place in lot)
                self.assertEqual(value(waste) > 0, passed)
                wastes[passed] += 1
            self.same(load_of_values(told), passes)
            self.same(trimmed(web, passes), table_of(web, start, end))
        self.assertGreater(min(wastes.values()), 20)

    def test_g5_which_loads_are_passes(self):
        told = {True: 0, False: 0}
        for dice, web, start, _ in drawn(409, 400):
            passes = random_load(dice, size_of(web), 2, 0.5)
            if dice.random() < 0.5:
                # A table with a multiple of the shares of a lot, to which something comes or not.
                lot = dice.choice(slow_lots(web))
                passes = shares_of(web, lot)
            fine = are_passes(web, start, passes)
            told[fine] += 1
            # Go-first with these as the allowance lets go all of it, exactly if they are the passes of a sure rule.
            self.same(most_of(web, start, passes) == passes, fine)
            if fine:
                self.same(last_end(web, start, passes), left_by(web, start, passes))
        self.assertGreater(min(told.values()), 40)


class Wishes(unittest.TestCase, Same):
    def test_g6_go_first_and_its_rests(self):
        for dice, web, start, machine in sure_machines(410, 150):
            end, passes = machine_end(web, start, machine)
            self.same(is_wish(web, start, end), True)
            table = wish_table(web, start, end)
            self.same((most_of(web, start, table), last_end(web, start, table)), (table, end))
            rests = rest_course(web, start, end, 6)
            for gone, rest in zip(machine_course(web, start, machine, 6), rests):
                self.assertTrue(is_within(rest, taken(passes, gone)))
            for kind, price in (("never fall", go_price), ("never rise", stay_price)):
                prices = random_prices(dice, size_of(web), kind)
                least = value(price(web, start, end, prices))
                self.assertLessEqual(least, value(machine_price(web, start, machine, prices)))

    def test_g6_a_price_that_falls_or_rises(self):
        dice = random.Random(411)
        for _ in range(60):
            numbers = tuple((dice.randint(0, 3), 1) for _ in range(dice.randint(2, 6)))
            for moment, dearer in ((first_fall(numbers), True), (first_rise(numbers), False)):
                if moment is not None:
                    web, start, wish = two_lines(moment)
                    prices = alike_prices(size_of(web), numbers)
                    goes = value(go_price(web, start, wish, prices))
                    self.assertEqual(goes > value(stay_price(web, start, wish, prices)), dearer)

    def test_g7_brinks(self):
        least = {True: 0, False: 0}
        dice = random.Random(412)
        for web in WEBS * 6:
            start, brinks = random_load(dice, size_of(web), 3), random_brinks(dice, size_of(web))
            if raised(go_end, web, start, brinks) is None:
                end, passes = go_end(web, start, brinks)
                course = go_by(web, start, brinks, 8)
                self.same(go_course(web, start, passes, 8), course)
                table = table_of(web, start, end)
                never = all(any(passes[0][place] == 0 for place in lot) for lot in slow_lots(web))
                self.same(is_least_go(web, start, brinks), never)
                self.same(table == passes, never)
                if never:
                    self.same(go_course(web, start, table, 8), course)
                least[never] += 1
            if raised(stay_end, web, start, brinks) is None:
                end, passes = stay_end(web, start, brinks)
                self.same(stay_by(web, start, brinks, 8), stay_course(web, start, end, 8))
                self.same(table_of(web, start, end), passes)
        self.assertGreater(min(least.values()), 8)

    def test_g7_coins(self):
        for web, start, wish, table in sure_wishes(413, 100):
            coins = coin_of(web, start, wish)
            self.same(coin_end(web, start, coins), (wish, table))
            self.same(is_least_coin(web, start, coins), True)
        dice = random.Random(414)
        least = {True: 0, False: 0}
        for web in WEBS * 6:
            start = random_load(dice, size_of(web), 3)
            coins = tuple(dice.choice(((1, 1), (1, 2), (1, 3), (0, 1))) for _ in range(size_of(web)))
            if raised(coin_end, web, start, coins) is None:
                passes = coin_end(web, start, coins)[1]
                never = all(any(passes[0][place] == 0 for place in lot) for lot in slow_lots(web))
                self.same(is_least_coin(web, start, coins), never)
                least[never] += 1
        self.assertGreater(min(least.values()), 8)

    def test_g8(self):
        told = {True: 0, False: 0}
        for dice, web, start, machine in sure_machines(415, 250):
            end, passes = machine_end(web, start, machine)
            deadlines = place_deadlines(web, start, end)
            self.same(has_deadline(web, start, end), None not in deadlines)
            course = machine_course(web, start, machine, 10)
            done = [k for k in range(11) if course[k] == passes]
            told[bool(done)] += 1
            if done:
                # Some rule is done by some moment: so there is a deadline, and it is not later.
                self.assertLessEqual(deadline_of(web, start, end), done[0])
            for place, deadline in enumerate(deadlines):
                last = [k for k in range(11) if value_at(course[k], place) == value_at(passes, place)]
                if last:
                    self.assertTrue(deadline is not None and deadline <= last[0])
        self.assertGreater(min(told.values()), 40)


def value_at(load, place):
    return Fraction(load[0][place], load[1])


class TimesAndMachines(unittest.TestCase, Same):
    def test_g9_rules_that_keep_to_a_timetable(self):
        dice = random.Random(416)
        for web in WEBS * 4:
            timetable = random_timetable(dice, size_of(web), dice.choice((1, 2, 4)))
            least = time_course(web, timetable, 6)
            for one, other in zip(least, some_times(dice, web, timetable, 6).course()):
                self.assertTrue(is_within(one, other))

    def test_g9_two_timetables(self):
        dice = random.Random(417)
        same = 0
        for web in WEBS * 8:
            size, moments = size_of(web), dice.choice((2, 3, 5))
            timetable = random_timetable(dice, size, moments)
            if dice.random() < 0.5:
                timetable = tuple((coming, timetable[-1][1]) for coming, _ in timetable)
            # In the other timetable some of what comes does so later.
            comings = [values(coming) for coming, _ in timetable]
            for t in range(moments - 1):
                share = Fraction(dice.randint(0, 2), 2)
                comings[t + 1] = [one + share * more for one, more in zip(comings[t + 1], comings[t])]
                comings[t] = [one - share * one for one in comings[t]]
            slower = tuple((load_of_values(row), rooms) for row, (_, rooms) in zip(comings, timetable))
            for one, other in zip(time_course(web, slower, 7), time_course(web, timetable, 7)):
                self.assertTrue(is_within(one, other))
            if timetable[0][1] == timetable[-1][1]:
                self.same(can_keep(web, slower), can_keep(web, timetable))
                if can_keep(web, timetable):
                    same += 1
                    self.same(time_passes(web, slower), time_passes(web, timetable))
        self.assertGreater(same, 5)

    def test_g10(self):
        dice = random.Random(418)
        for web in [web for web in WEBS if size_of(web) <= 4] * 6:
            size, start = size_of(web), random_load(dice, size_of(web), 3)
            one, other = random_machine(dice, size, 2), random_machine(dice, size, dice.choice((1, 2)))
            courses = [machine_walk(web, start, machine, 4) for machine in (one, other)]
            twos = [machine_walk(web, start, made(size, one, other), 4) for made in (sooner, later)]
            for first, then, low, high in zip(*courses, *twos):
                self.same(added(first, then), added(low, high))
            if is_sure(web, start, one) and is_sure(web, machine_end(web, start, one)[0], other):
                end, passes = machine_end(web, start, one)
                last, more = machine_end(web, end, other)
                self.same(machine_end(web, start, behind(size, one, other)), (last, added(passes, more)))
            else:
                self.same(is_sure(web, start, behind(size, one, other)), False)


class Smaller(unittest.TestCase, Same):
    def test_g11_cutting_out(self):
        told = 0
        for dice, web, start, rooms in drawn(419, 150):
            places = dice.choice(left_sets(web))
            rooms = load_of_values([Fraction(0) if i in places else one for i, one in enumerate(values(rooms))])
            less, begin, room = cut_web(web, places), cut_load(web, places, start), cut_load(web, places, rooms)
            self.same(can_stay(less, begin, room), can_stay(web, start, rooms))
            if can_stay(web, start, rooms):
                told += 1
                self.same(filled_back(web, places, start, table_of(less, begin, room)), table_of(web, start, rooms))
        self.assertGreater(told, 30)

    def test_g11_lumping_and_splitting(self):
        dice = random.Random(420)
        for _ in range(60):
            web = lumpable_web(dice)
            size = size_of(web)
            parts = coarsest(web, dice.choice(all_parts(size)))
            start, rooms = random_load(dice, size, 3), random_load(dice, size)
            less = lumped_web(web, parts)
            begin, room = lumped_load(size, parts, start), lumped_load(size, parts, rooms)
            for one, other in zip(stay_course(less, begin, room, 4), stay_course(web, start, rooms, 4)):
                self.assertTrue(is_within(one, lumped_load(size, parts, other)))
            for one, other in zip(go_course(less, begin, room, 4), go_course(web, start, rooms, 4)):
                self.assertTrue(is_within(lumped_load(size, parts, other), one))
            place, spread = dice.randrange(size), ((1, 2), 3)
            made, split = split_web(web, place, spread), lambda load: split_load(size, place, spread, load)
            self.same(can_stay(made, split(start), split(rooms)), can_stay(web, start, rooms))
            if can_stay(web, start, rooms):
                self.same(table_of(made, split(start), split(rooms)), split(table_of(web, start, rooms)))
                table = table_of(less, begin, room)
                self.assertTrue(is_within(table, lumped_load(size, parts, table_of(web, start, rooms))))

    def test_g11_backward_and_forgetting(self):
        for dice, web in lot_cases(421, 40):
            size, back = size_of(web), backward(web)
            here, there = dice.randrange(size), dice.randrange(size)
            self.same(round_trip(back, here, there), round_trip(web, here, there))
            shares = values(shares_of(web, tuple(range(size))))
            homes, backs = ([value(home_need(net, place)) for place in range(size)] for net in (web, back))
            self.assertEqual(value(forgetting_need(web)), product_values(shares, backs))
            self.assertEqual(max(homes), max(backs))
            self.same(worst_need(web, forgetting(web)), forgetting_need(web))
            for place in range(size):
                unit = unit_load(size, place)
                if unit != forgetting(web):
                    self.assertGreater(value(worst_need(web, unit)), value(forgetting_need(web)))


class Walkers(unittest.TestCase, Same):
    def test_g12(self):
        told = {True: 0, False: 0}
        for dice, rows, walkers, seats in walker_cases(422, 300):
            paper = walker_paper(rows, walkers, seats)
            ends = lets_walkers(rows, walkers, seats, paper)
            told[ends] += 1
            way, sends, standing = walk_by(rows, walkers, seats, dice.choice)
            self.same(is_walker_course(rows, walkers, seats, tuple(way)), True)
            self.same(not overfull(standing, seats), ends)
            if ends:
                # Each walker course, gone on with, ends, and sends from each place as often as any other one.
                self.same(settle(rows, walkers, seats), (tuple(sends), tuple(standing)))
                for k in range(len(way)):
                    early = walk(rows, walkers, way[:k])[0]
                    self.assertTrue(all(one <= other for one, other in zip(early, sends)))
                    self.assertEqual(stuck_sets(rows, early, walk(rows, walkers, way[:k])[1], seats), [])
            else:
                sends, standing = walk(rows, walkers, paper[1])
                places = paper[2]
                self.assertFalse(any(i in places and j not in places for i, j in open_arrows(rows, sends)))
                self.assertGreater(sum(standing[i] - seats[i] for i in places), 0)
        self.assertGreater(min(told.values()), 80)


class Steps(unittest.TestCase, Same):
    def test_drawn_webs_are_as_told(self):
        # The tests above rest on these: lots, fleeting places, steps.
        for _, web, start, _ in drawn(423, 60):
            held = [place for lot in slow_lots(web) for place in lot]
            self.same(tuple(sorted(held + list(slow_fleeting(web)))), tuple(range(size_of(web))))
            self.same(stepped(web, start), load_of_values(step_values(web, values(start))))
            self.same(load_from([2 * top for top in start[0]], 2 * start[1]), start)
