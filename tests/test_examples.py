"""The examples of the document, to the sign."""

import unittest

from stayorgo.errors import StayError

# The examples as the document has them; where it says that a call raises an error, "raises" and the error stand here.
TOLD = """
>>> HALVES = (((1, 1), (1, 1)), 2)
>>> FORK = (((0, 1, 1), (0, 0, 2), (0, 0, 2)), 2)
>>> TURN = (((0, 1), (1, 0)), 1)
>>> BOARD = (((0, 4, 0, 0), (2, 0, 2, 0), (0, 1, 0, 3), (0, 0, 0, 4)), 4)
>>> ONE = ((1, 0, 0), 1)
>>> from stayorgo.kinds import is_quotient, is_set
>>> (is_quotient((2, 4)), is_quotient((-1, 2)), is_set(3, ()), is_set(3, (2, 1)))
(False, True, True, False)
>>> from stayorgo.quotients import over, quotient_of
>>> (quotient_of(6, -4), over((1, 2), (-3, 4)))
((-3, 2), (-2, 3))
>>> from stayorgo.loads import load_of, product_of, taken
>>> load_of(((1, 2), (0, 1), (1, 3)))
((3, 0, 2), 6)
>>> (taken(((3, 0, 2), 6), ((1, 0, 1), 3)), product_of(((3, 0, 2), 6), ((1, 0, 1), 3)))
(((1, 0, 0), 6), (5, 18))
>>> from stayorgo.compares import first_above, lesser_of
>>> (lesser_of(((1, 1), 2), ((0, 2), 3)), first_above(((1, 1), 2), ((2, 0), 3)))
(((0, 1), 2), 1)
>>> from stayorgo.webchecker import lets_web
>>> lets_web((((1, 1), (2, 0)), 2))
2
>>> from stayorgo.webmaking import lazily
>>> lazily(TURN, (1, 3))
(((1, 2), (2, 1)), 3)
>>> from stayorgo.arrows import closed_lots, fleeting_places, reached_from
>>> (closed_lots(BOARD), fleeting_places(BOARD), reached_from(FORK, 1))
(((3,),), (0, 1, 2), (1, 2))
>>> from stayorgo.stepping import shares_of, step_course
>>> (step_course(FORK, ONE, 1), shares_of((((0, 2), (1, 1)), 2), (0, 1)))
((((1, 0, 0), 1), ((0, 1, 1), 2)), ((1, 2), 3))
>>> from stayorgo.rings import ring_in
>>> (ring_in(FORK, (1, 2)), ring_in(FORK, (0, 1)))
((2,), None)
>>> from stayorgo.solving import visits_in
>>> visits_in(BOARD, (0, 1, 2), ((1, 0, 0, 0), 1))
((7, 8, 4, 0), 3)
>>> from stayorgo.webtexts import load_line, web_line
>>> (load_line(((1, 0, 2), 3)), web_line(TURN))
('1,0,2/3', '0,1;1,0/1')
>>> from stayorgo.webclasses import Web
>>> net = Web.read_line("0,1;1,0/1")
>>> (len(net), (0, 1) in net, net.walk(((1, 0), 1), many=3))
(2, True, ((0, 1), 1))
>>> from stayorgo.growing import growth_of
>>> growth_of(FORK, ONE, ((0, 10, 3), 10))
((0,), (0, 2))
>>> growth_of(FORK, ONE, ((0, 1, 3), 4))
((0,), (0, 1))
>>> from stayorgo.tables import can_stay, table_of
>>> table_of(BOARD, ((1, 0, 0, 0), 1), ((0, 0, 0, 1), 1))
((7, 8, 4, 0), 3)
>>> from stayorgo.ends import first_end, room_left, with_less, with_more
>>> room_left(FORK, ONE, ((1, 0, 2), 2))
((0, 0, 1), 2)
>>> with_more(FORK, ((1, 0, 0), 2), ((1, 0, 2), 2), ((0, 1, 0), 2))
(((0, 1, 0), 2), ((1, 0, 1), 2))
>>> with_less(FORK, ONE, ((1, 0, 2), 2), ((0, 0, 1), 1))
(((2, 1, 0), 2), ((0, 0, 1), 1))
>>> from stayorgo.hopes import hope_of
>>> hope_of(BOARD, (3,), (0,))
((0, 3, 6, 7), 7)
>>> from stayorgo.gaps import gap_of, gaps_of, lost_of, some_gap
>>> gap_of(FORK, ONE, ((0, 10, 3), 10), (2,), ())
(-3, 10)
>>> gaps_of(FORK, ONE, ((0, 10, 3), 10))
(((2,), (1,)),)
>>> some_gap(FORK, ONE, ((0, 1, 1), 2))
None
>>> lost_of(FORK, ONE, ((0, 10, 3), 10))
((1, 5),)
>>> from stayorgo.morerooms import greatest_share, least_more
>>> least_more(FORK, ONE, ((0, 10, 3), 10), 0)
(2, 5)
>>> least_more(FORK, ONE, ((0, 10, 3), 10), 1)
None
>>> greatest_share(FORK, ONE, ((0, 10, 3), 10))
(3, 5)
>>> from stayorgo.roompapers import lets_room, room_paper
>>> room_paper(FORK, ONE, ((0, 1, 1), 2))
('table', ((1, 0, 0), 1))
>>> lets_room(FORK, ONE, ((0, 10, 3), 10), ("gap", (2,), (1,)))
False
>>> lets_room(FORK, ONE, ((0, 1, 1), 2), ("table", ((2, 0, 0), 1)))
raises InvalidPaper('passed', 0)
>>> from stayorgo.comings import can_come, end_places, need_of
>>> can_come(FORK, ONE, ((0, 1, 0), 1))
False
>>> need_of(BOARD, ((1, 0, 0, 0), 1), ((0, 0, 0, 1), 1))
(19, 3)
>>> end_places(FORK, ((0, 1, 0), 1))
(1, 2)
>>> from stayorgo.firsts import by_first
>>> by_first(FORK, ONE, ((0, 1, 2), 2), ((0, 0, 1), 1))
(((1, 0, 0), 1), ((0, 1, 0), 2))
>>> from stayorgo.roomclasses import Rooms
>>> house = Rooms(FORK, ONE, ((0, 1, 2), 2))
>>> house.find_left()
((0, 0, 1), 2)
>>> house.with_fewer(((0, 1, 0), 2)).fits()
False
>>> from stayorgo.mosts import come_places, last_end, most_of
>>> come_places(FORK, ONE, ((0, 1, 1), 1))
(0,)
>>> most_of(FORK, ONE, ((4, 1, 12), 4))
((4, 1, 12), 4)
>>> last_end(FORK, ONE, ((4, 1, 12), 4))
((0, 1, 3), 4)
>>> from stayorgo.spares import more_allowance, more_start, spare_of
>>> spare_of(TURN, ((1, 0), 1), ((3, 0), 1))
((2, 0), 1)
>>> more_allowance(TURN, ((1, 0), 1), ((1, 0), 1), ((0, 1), 1))
(((1, 1), 1), ((1, 0), 1))
>>> more_start(TURN, ((1, 0), 1), ((1, 0), 1), ((1, 0), 1))
(((1, 0), 1), ((1, 1), 1))
>>> from stayorgo.mostchecker import lets_most
>>> lets_most(TURN, ((1, 0), 1), ((1, 1), 1), ((1, 1), 1))
((1, 0), 1)
>>> lets_most(TURN, ((0, 0), 1), ((1, 1), 1), ((1, 1), 1))
raises InvalidPaper('lot', 0)
>>> from stayorgo.boths import can_both, spans
>>> can_both(HALVES, ((1, 0), 1), ((1, 1), 2), ((1, 1), 2))
False
>>> spans(HALVES, ((1, 0), 1), ((1, 1), 2), ((1, 0), 1), 2)
(((3, 0), 4), ((1, 0), 1))
>>> from stayorgo.wishes import is_wish, wish_need, wish_table
>>> wish_table(FORK, ONE, ((0, 1, 3), 4))
((4, 1, 0), 4)
>>> wish_need(FORK, ONE, ((0, 1, 3), 4))
(5, 4)
>>> from stayorgo.wastes import trimmed, waste_of, wasted
>>> trimmed(TURN, ((2, 1), 1))
((1, 0), 1)
>>> waste_of(TURN, ((2, 1), 1))
((2, 1),)
>>> wasted(FORK, ((4, 1, 0), 4), (2,), (3, 1))
((4, 1, 12), 4)
>>> from stayorgo.passings import left_by, lets_passes
>>> left_by(FORK, ONE, ((0, 1, 0), 1))
None
>>> lets_passes(TURN, ((0, 1), 1), ((2, 3), 1))
((1, 0), 1)
>>> lets_passes(TURN, ((0, 0), 1), ((1, 1), 1))
raises InvalidPaper('lot', 0)
>>> from stayorgo.needs import need_between, needs_of, round_trip
>>> need_between(BOARD, 0, 3)
(19, 3)
>>> needs_of(FORK)
(((0, 1), None, (3, 2)), (None, (0, 1), (1, 1)), (None, None, (0, 1)))
>>> round_trip(HALVES, 0, 1)
(4, 1)
>>> from stayorgo.ways import goes_by, middle_need
>>> middle_need(FORK, ONE, ((0, 1, 1), 2), ((0, 1, 3), 4))
((1, 1), (1, 4), (5, 4))
>>> goes_by(TURN, ((1, 0), 1), ((0, 1), 1), ((1, 0), 1))
False
>>> from stayorgo.wishclasses import Wish
>>> one = Wish(FORK, ONE, ((0, 1, 3), 4))
>>> one.least_need
(5, 4)
>>> list(one.never_passed())
[((2,), 2)]
>>> one.waste_by(one.with_waste((2,), factor=(3, 1)))
((3, 1),)
>>> Wish(FORK, ONE, ((0, 1, 1), 2)).going_on(((0, 1, 3), 4)).passed()
((0, 1, 0), 4)
>>> LEFT = ((1, 0), 1)
>>> EVEN = ((1, 1), 2)
>>> from stayorgo.coursekinds import is_course, kept_course, standing_course
>>> GONE = (((0, 0), 1), ((1, 0), 2), ((3, 0), 4))
>>> standing_course(HALVES, LEFT, GONE)
(((1, 0), 1), ((1, 1), 4))
>>> kept_course(HALVES, LEFT, GONE)
(((1, 0), 2), ((2, 1), 4))
>>> from stayorgo.courses import go_course, stay_course
>>> stay_course(HALVES, LEFT, EVEN, 2)
(((0, 0), 1), ((1, 0), 2), ((3, 0), 4))
>>> go_course(HALVES, LEFT, LEFT, 1)
(((0, 0), 1), ((1, 0), 1))
>>> from stayorgo.rests import is_done_by, rest_after, rest_course
>>> rest_after(FORK, ((4, 1, 0), 4), ((0, 1, 3), 4))
((0, 1, 0), 4)
>>> from stayorgo.brinks import go_brinks, stay_brinks
>>> go_brinks(HALVES, LEFT, LEFT, 3)
((1, (0, 1)), (1, (0, 1)))
>>> stay_brinks(HALVES, LEFT, EVEN, 3)
((0, (1, 2)), None)
>>> from stayorgo.brinkcourses import go_by
>>> go_by(TURN, LEFT, ((2, (1, 2)), None), 3)
(((0, 0), 1), ((1, 0), 1), ((1, 1), 1), ((3, 2), 2))
>>> from stayorgo.brinkends import go_end
>>> go_end(TURN, LEFT, ((2, (1, 2)), None))
(((1, 0), 1), ((3, 3), 2))
>>> go_end(TURN, LEFT, (None, None))
raises Endless((0, 1))
>>> from stayorgo.coins import coin_of
>>> coin_of(HALVES, LEFT, EVEN)
((1, 3), (1, 1))
>>> from stayorgo.prices import coin_price, go_price, stay_price
>>> DEARER = (((1, 1), 1), ((2, 2), 1))
>>> (go_price(HALVES, LEFT, EVEN, DEARER), stay_price(HALVES, LEFT, EVEN, DEARER))
((1, 1), (3, 2))
>>> coin_price(HALVES, LEFT, ((1, 3), (1, 1)), DEARER)
(4, 3)
>>> from stayorgo.twolines import alike_prices, first_fall, first_rise, two_lines
>>> two_lines(0)
((((0, 1, 0), (0, 0, 1), (0, 0, 1)), 1), ((1, 1, 0), 2), ((0, 1, 1), 2))
>>> first_fall(((1, 1), (2, 1), (1, 2)))
1
>>> from stayorgo.clockclasses import Clock
>>> clock = Clock(HALVES, LEFT, EVEN)
>>> (clock.tick(), clock.both_rests(), bool(clock))
(1, (((1, 0), 2), ((0, 0), 1)), False)
>>> BEGIN = ((1, 0, 0, 0), 1)
>>> LAST = ((0, 0, 0, 1), 1)
>>> LATER = ((0, 1, 3), 4)
>>> from stayorgo.deadlines import deadline_of, has_deadline
>>> (has_deadline(BOARD, BEGIN, LAST), deadline_of(FORK, ONE, LATER))
(False, 2)
>>> from stayorgo.lastings import idle_ring, lasting_places, place_deadlines
>>> (lasting_places(BOARD, BEGIN, LAST), place_deadlines(FORK, ONE, LATER))
((0, 1, 2), (1, 2, 0))
>>> from stayorgo.deadlinepapers import deadline_paper, lets_deadline
>>> lets_deadline(BOARD, BEGIN, LAST, ("ring", (1, 0)))
False
>>> lets_deadline(FORK, ONE, LATER, ("done", 10 ** 59))
raises InvalidPaper('sooner', 1)
>>> DAYS = ((((1, 0), 1), ((1, 0), 2)), (((0, 1), 2), ((1, 1), 1)))
>>> from stayorgo.timecourses import time_course, time_kept
>>> (time_course(HALVES, DAYS, 1), time_kept(HALVES, DAYS, 2))
((((0, 0), 1), ((1, 0), 2)), (((1, 0), 2), ((3, 3), 4)))
>>> from stayorgo.timerests import at_rest
>>> at_rest(HALVES, DAYS)
(((1, 3), 4), ((1, 2), 2))
>>> from stayorgo.timeends import time_end, time_passes
>>> (time_passes(HALVES, DAYS), time_end(HALVES, DAYS))
(((1, 0), 2), ((3, 3), 4))
>>> from stayorgo.timetexts import read_timetable, timetable_line
>>> timetable_line(DAYS)
'1,0/1<1,0/2 0,1/2<1,1/1'
>>> read_timetable("1,0/1<1,0")
raises InvalidText(0, 9)
>>> from stayorgo.timeclasses import Times
>>> times = Times(HALVES, DAYS).next_moment(((0, 1), 1))
>>> (times.can_hold(), times.all_comings)
(False, ((2, 3), 2))
>>> from stayorgo.machinechecker import lets_machine
>>> lets_machine(1, ((1,), (((2,),),), 1))
raises InvalidPaper('sum', (0, 0))
>>> from stayorgo.machinemaking import coin_machine, go_machine, stay_machine, waits_machine
>>> waits_machine(2, 1)
((1, 0), (((0, 1), (0, 1)), ((0, 0), (0, 0))), 1)
>>> go_machine(((0, (1, 2)), None))
((2, 0), (((0, 1), (0, 2)), ((0, 0), (0, 2))), 2)
>>> ONCE = waits_machine(2, 1)
>>> COIN = coin_machine(((1, 3), (1, 1)))
>>> from stayorgo.machinepairs import pairs_of, staying_pairs
>>> (pairs_of(TURN, LEFT, ONCE), staying_pairs(TURN, LEFT, ONCE))
(((0, 0), (1, 1)), ((1, 1),))
>>> from stayorgo.machinecourses import machine_course, memory_course
>>> machine_course(HALVES, LEFT, COIN, 2)
(((0, 0), 1), ((2, 0), 3), ((8, 0), 9))
>>> memory_course(TURN, LEFT, ONCE, 1)
((((1, 0), 1), ((0, 0), 1)), (((0, 0), 1), ((0, 1), 1)))
>>> from stayorgo.machineends import machine_end
>>> machine_end(HALVES, LEFT, COIN)
(((1, 1), 2), ((1, 0), 1))
>>> machine_end(TURN, LEFT, coin_machine(((0, 1), (0, 1))))
raises Endless(((0, 0), (0, 1)))
>>> from stayorgo.machinewastes import better_table
>>> better_table(TURN, LEFT, waits_machine(2, 2))
(((1, 0), 1), ((0, 0), 1), (2, 1))
>>> from stayorgo.behinds import behind
>>> behind(1, waits_machine(1, 1), waits_machine(1, 1))
((1, 0, 0, 0), (((0, 1, 0, 0),), ((0, 0, 0, 1),), ((0, 0, 0, 1),), ((0, 0, 0, 0),)), 1)
>>> from stayorgo.twos import later
>>> later(1, coin_machine(((1, 2),)), coin_machine(((1, 2),)))
((4, 0, 0), (((1, 1, 1),), ((0, 2, 0),), ((0, 0, 2),)), 4)
>>> from stayorgo.machinetexts import machine_line, read_machine
>>> machine_line(2, ONCE)
'1,0:0,1;0,1:0,0;0,0/1'
>>> read_machine(1, "1:2/1")
raises InvalidRow(1)
>>> from stayorgo.machineclasses import Machine
>>> tool = Machine.of_text(2, "1,0:0,1;0,1:0,0;0,0/1")
>>> (tool(TURN, LEFT), (tool >> tool).memories, list(tool.moments_on(TURN, LEFT, 1)))
((((0, 1), 1), ((1, 0), 1)), 4, [((1, 0), 1), ((0, 1), 1)])
>>> from stayorgo.cuts import cut_web, filled_back
>>> cut_web(BOARD, (1,))
(((4, 4, 0), (1, 1, 6), (0, 0, 8)), 8)
>>> filled_back(BOARD, (1,), ((1, 0, 0, 0), 1), ((7, 4, 0), 3))
((7, 8, 4, 0), 3)
>>> from stayorgo.lumpkinds import first_unlike
>>> first_unlike(FORK, ((0, 1), (2,)))
(0, 0, 1, 0)
>>> from stayorgo.lumpings import coarsest, lumped_web
>>> from stayorgo.webmaking import ring_web
>>> lumped_web(ring_web(4), ((0, 2), (1, 3)))
(((0, 1), (1, 0)), 1)
>>> coarsest(FORK, ((0, 1), (2,)))
((0,), (1,), (2,))
>>> from stayorgo.splits import copies_of, split_web
>>> split_web(TURN, 1, ((1, 2), 3))
(((0, 1, 2), (3, 0, 0), (3, 0, 0)), 3)
>>> copies_of(3, 1, 2)
((0,), (1, 2), (3,))
>>> from stayorgo.renamings import renamed_load
>>> renamed_load(3, (2, 0, 1), ((5, 6, 7), 8))
((6, 7, 5), 8)
>>> CIRCLE = (((0, 2, 0), (0, 0, 2), (1, 1, 0)), 2)
>>> from stayorgo.backwards import backward
>>> backward(CIRCLE)
(((0, 0, 2), (1, 0, 1), (0, 2, 0)), 2)
>>> from stayorgo.returns import returns_of
>>> returns_of(TURN)
(((1, -1), (-1, 1)), 4)
>>> from stayorgo.forgettings import forgetting, worst_places
>>> (forgetting(CIRCLE), worst_places(CIRCLE, ((1, 2, 2), 5)))
(((1, 3, 1), 5), (0, 1))
>>> from stayorgo.smallclasses import Small
>>> small = Small(BOARD).cut_out(1).rename_by((2, 0, 1))
>>> small.bring(((1, 2, 0, 0), 4))
((1, 0, 2), 4)
>>> FLIP = (((), (1,)), ((), (0,)))
>>> from stayorgo.sending import arrows_to_come
>>> arrows_to_come((((1,), (0,)), ((), (1,))), (1, 0))
((0, 0), (1, 1))
>>> from stayorgo.settlings import settle
>>> settle(FLIP, (2, 0), (1, 0))
raises Endless((0, 1))
>>> from stayorgo.walkerpapers import lets_walkers
>>> lets_walkers(FLIP, (2, 0), (1, 0), ("never", (0, 0), (0, 1)))
raises InvalidPaper('overfull', 1)
>>> from stayorgo.leading import led
>>> MARKS = ((1, (0, 1)), (1, (1, 2)), (0, (0, 1)))
>>> led(FORK, "go", MARKS, 0, (((0, 1), (1, 4)), ((1, 4), (0, 1)), ((0, 1), (0, 1))))
((0, 1, 2), True)
>>> from stayorgo.live import LiveHouse
>>> house = LiveHouse(FORK)
>>> house.do_all((("room", 1, (1, 2)), ("room", 2, (3, 4)), ("come", 0, (1, 1))))
None
>>> house.leave(2, (1, 4))
None
>>> (house.held_now, house.passed_now, house.tried(("come", 0, (1, 1))))
(((0, 2, 1), 4), ((1, 0, 0), 1), False)
>>> from stayorgo.eventtexts import read_event
>>> read_event("come 0 2/4")
raises InvalidText(0, 2)
>>> from stayorgo.desk import Desk
>>> list(Desk(TURN).hear_all("room 1 1/2", "come 0 1/2", "passed", "undo 3"))
['done', 'done', '1,0/2', 'no: undo']
>>> table_of(FORK, ONE, ((0, 1, 1), 2))
((1, 0, 0), 1)
>>> can_stay(FORK, ONE, ((0, 10, 3), 10))
False
>>> hope_of(FORK, (2,), (1,))
((1, 0, 2), 2)
>>> gap_of(FORK, ONE, ((0, 10, 3), 10), (2,), (1,))
(1, 5)
>>> table_of(FORK, ONE, ((0, 1, 3), 4))
((4, 1, 0), 4)
>>> first_end(FORK, ONE, ((0, 1, 3), 4))
((0, 1, 3), 4)
>>> table_of(HALVES, ((1, 0), 1), ((1, 1), 2))
((1, 0), 1)
>>> go_course(HALVES, LEFT, wish_table(HALVES, LEFT, EVEN), 3)
(((0, 0), 1), ((1, 0), 1), ((1, 0), 1), ((1, 0), 1))
>>> is_done_by(HALVES, LEFT, EVEN, 1)
True
>>> rest_course(HALVES, LEFT, EVEN, 2)
(((1, 0), 1), ((0, 0), 1), ((0, 0), 1))
>>> stay_course(HALVES, LEFT, EVEN, 3)
(((0, 0), 1), ((1, 0), 2), ((3, 0), 4), ((7, 0), 8))
"""


def shown(refusal):
    """An error as the document writes it."""
    return "raises {}({})".format(type(refusal).__name__, ", ".join(repr(field) for field in vars(refusal).values()))


def result_of(source, names):
    """What the expression gives, written out."""
    try:
        return repr(eval(source, names))
    except StayError as refusal:
        return shown(refusal)


class Examples(unittest.TestCase):
    def test_examples_of_the_document(self):
        names = {}
        lines = TOLD.strip().split("\n")
        told = 0
        for at, line in enumerate(lines):
            if not line.startswith(">>> "):
                continue
            if at + 1 == len(lines) or lines[at + 1].startswith(">>> "):
                exec(line[4:], names)
            else:
                self.assertEqual(result_of(line[4:], names), lines[at + 1], line)
                told += 1
        self.assertEqual(told, len([line for line in lines if not line.startswith(">>> ")]))
