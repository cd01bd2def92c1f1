"""The interface: each name stands in its own file, with its arguments in their order."""

import importlib
import inspect
import unittest

FUNCTIONS = """
kinds: is_integer(thing), is_number(thing), is_quotient(thing), is_load(size, thing), is_spread(size, thing)
kinds: is_set(size, thing)
quotients: quotient_of(top, bottom), plus(one, other), minus(one, other), times(one, other), over(one, other)
quotients: is_less(one, other)
loads: load_of(quotients), entry_of(load, place), weight_of(load), no_load(size), unit_load(size, place)
loads: added(load, other), taken(load, other), scaled(load, factor), product_of(load, other)
compares: is_within(load, other), lesser_of(load, other), greater_of(load, other), first_above(load, other)
webchecker: lets_web(thing), is_web(thing)
webmaking: web_of(rows), ring_web(size), lazily(web, part), beside(web, other), row_of(web, place)
arrows: arrows_of(web), nexts_of(web, place), reached_from(web, place), closed_lots(web), fleeting_places(web)
arrows: closed_at(web, place)
stepping: stepped(web, start), walked(web, start, many), step_course(web, start, many), shares_of(web, closed)
rings: ring_in(web, places), is_ring(web, thing)
solving: is_left(web, places), visits_in(web, places, start)
webtexts: load_line(load), web_line(web), read_load(text), read_web(text)
growing: growth_of(web, start, rooms)
tables: can_stay(web, start, rooms), table_of(web, start, rooms)
ends: first_end(web, start, rooms), room_left(web, start, rooms), with_more(web, start, rooms, extra)
ends: with_less(web, start, rooms, fewer)
hopes: hope_of(web, closed, barred)
gaps: gap_of(web, start, rooms, closed, barred), gaps_of(web, start, rooms), some_gap(web, start, rooms)
gaps: lost_of(web, start, rooms)
morerooms: least_more(web, start, rooms, place), greatest_share(web, start, rooms)
roompapers: room_paper(web, start, rooms), lets_room(web, start, rooms, thing)
comings: can_come(web, start, target), need_of(web, start, target), end_places(web, start)
firsts: is_end(web, start, rooms, target), by_first(web, start, rooms, target)
mosts: come_places(web, start, allowance), most_of(web, start, allowance), last_end(web, start, allowance)
spares: spare_of(web, start, allowance), more_allowance(web, start, allowance, extra)
spares: more_start(web, start, allowance, extra)
mostchecker: lets_most(web, start, allowance, thing)
boths: can_both(web, start, rooms, allowance), spans(web, start, rooms, allowance, many)
wishes: is_wish(web, start, thing), wish_table(web, start, wish), wish_need(web, start, wish)
wastes: trimmed(web, passes), waste_of(web, passes), wasted(web, passes, closed, factor)
passings: left_by(web, start, passes), are_passes(web, start, passes), lets_passes(web, start, thing)
needs: need_between(web, here, there), needs_of(web), round_trip(web, here, there)
ways: middle_need(web, start, middle, wish), goes_by(web, start, middle, wish)
coursekinds: is_course(web, start, thing), standing_course(web, start, course), kept_course(web, start, course)
courses: stay_course(web, start, rooms, many), go_course(web, start, allowance, many)
rests: rest_after(web, rest, wish), rest_course(web, start, wish, many), is_done_by(web, start, wish, many)
brinks: is_brink(thing), is_brinks(size, thing), go_brinks(web, start, allowance, many)
brinks: stay_brinks(web, start, rooms, many)
brinkcourses: go_by(web, start, brinks, many), stay_by(web, start, brinks, many)
brinkends: go_end(web, start, brinks), stay_end(web, start, brinks), is_least_go(web, start, brinks)
coins: is_coins(size, thing), coin_of(web, start, wish), coin_course(web, start, coins, many)
coins: coin_end(web, start, coins), is_least_coin(web, start, coins)
prices: is_prices(size, thing), never_fall(size, prices), never_rise(size, prices), go_price(web, start, wish, prices)
prices: stay_price(web, start, wish, prices), coin_price(web, start, coins, prices)
twolines: two_lines(many), first_fall(numbers), first_rise(numbers), alike_prices(size, numbers)
deadlines: has_deadline(web, start, wish), deadline_of(web, start, wish)
lastings: idle_ring(web, start, wish), lasting_places(web, start, wish), place_deadlines(web, start, wish)
deadlinepapers: deadline_paper(web, start, wish), lets_deadline(web, start, wish, thing)
timechecker: lets_timetable(size, thing), is_timetable(size, thing)
timemaking: steady_timetable(size, comings, rooms), opened(size, timetable), gathered(size, timetable)
timemaking: coming_in_all(size, timetable)
timecourses: time_course(web, timetable, many), time_kept(web, timetable, many)
timerests: at_rest(web, timetable)
timeends: can_keep(web, timetable), time_passes(web, timetable), time_end(web, timetable)
timeends: is_time_course(web, timetable, thing), keeps_to(web, timetable, course)
timetexts: timetable_line(timetable), read_timetable(text)
machinechecker: lets_machine(size, thing), is_machine(size, thing)
machinemaking: waits_machine(size, many), coin_machine(coins), go_machine(brinks), stay_machine(brinks)
machinepairs: pairs_of(web, start, machine), staying_pairs(web, start, machine), stuck_pairs(web, start, machine)
machinepairs: is_sure(web, start, machine)
machinecourses: machine_course(web, start, machine, many), memory_course(web, start, machine, many)
machineends: machine_end(web, start, machine)
machinewastes: machine_waste(web, start, machine), better_table(web, start, machine)
behinds: behind(size, one, other), mixed(size, one, other, part)
twos: sooner(size, one, other), later(size, one, other)
machineprices: machine_price(web, start, machine, prices)
machinetexts: machine_line(size, machine), read_machine(size, text)
cuts: cut_web(web, places), cut_load(web, places, start), filled_back(web, places, start, passes)
lumpkinds: is_parts(size, thing), is_lumping(web, thing), first_unlike(web, parts)
lumpings: lumped_web(web, parts), lumped_load(size, parts, load), coarsest(web, parts)
splits: split_web(web, place, spread), split_load(size, place, spread, load), copies_of(size, place, many)
renamings: is_order(size, thing), renamed_web(web, order), renamed_load(size, order, load), turned_order(size, order)
backwards: is_one_lot(web), backward(web)
returns: returns_of(web), need_by(web, start, wish)
forgettings: forgetting(web), forgetting_need(web), worst_need(web, wish), worst_places(web, wish)
forgettings: home_need(web, place), lets_forgetting(web, thing)
walkerkinds: is_rows(thing), is_walkers(size, thing)
sending: standing_after(rows, walkers, way), is_walker_course(rows, walkers, seats, way), arrows_to_come(rows, sends)
sending: row_arrow(rows, place, many)
settlings: settle(rows, walkers, seats), some_course(rows, walkers, seats)
walkerpapers: walker_paper(rows, walkers, seats), lets_walkers(rows, walkers, seats, thing)
leading: is_die(thing), go_word(brinks, place, many, die), stay_word(brinks, place, many, die)
leading: coin_word(coins, place, die), arrow_by(web, place, die), led(web, manner, marks, place, dice)
liveevents: is_event(size, thing), is_log(thing)
replaying: replayed(log)
eventtexts: event_line(event), read_event(text)
"""

# After the signature of the class itself: its methods; its properties, with "@"; its generators, with "*".
CLASSES = {
    ("webclasses", "Web"): """(web); walk(start, *, many=1); read_line(text); __len__(); __iter__(); __contains__(thing);
        __eq__(other); __call__(start); __add__(other)""",
    ("roomclasses", "Rooms"): """(web, start, rooms); given(); fits(); find_table(); find_end(); find_left(); find_need();
        find_gaps(); find_help(place); find_share(); find_paper(); judge(thing); takes_end(target); and_more(extra);
        with_fewer(fewer)""",
    ("wishclasses", "Wish"): """(web, start, wish); told(); passed(); @least_need; *never_passed(); is_met_by(thing);
        waste_by(passes); with_waste(closed, *, factor=(1, 1)); going_on(wish); leads_by(middle); __eq__(other)""",
    ("clockclasses", "Clock"): """(web, start, wish); @moment_now; tick(*, many=1); both_passes(); both_rests();
        look_ahead(many); *moments_to(many); both_brinks(many); price_by(prices, *, manner='go'); __eq__(other);
        __bool__()""",
    ("timeclasses", "Times"): """(web, timetable); @all_comings; @told_line; both_given(); passes_to(many); stays_to(many);
        at_last(); can_hold(); passes_in_all(); stays_in_all(); is_kept_by(course); next_moment(coming, *, rooms=None);
        delayed(*, many=1); read_times(web, text); *through(); __len__(); __iter__(); __eq__(other)""",
    ("machineclasses", "Machine"): """(size, machine); surely(web, start); course_on(web, start, *, many=1);
        *moments_on(web, start, many); waste_on(web, start); price_on(web, start, prices); mix(other, *, part=(1, 2));
        of_text(size, text); __eq__(other); __call__(web, start); __rshift__(other); __and__(other); __or__(other)""",
    ("smallclasses", "Small"): """(web); cut_out(*places); lump_by(parts, *, most=False); split_at(place, *, spread);
        rename_by(order); bring(load); both_tables(start, rooms); by_deeds(web, deeds); __iter__(); __eq__(other)""",
    ("live", "LiveHouse"): """(web); come(place, amount); set_room(place, amount); leave(place, amount); go(event);
        do_all(events); tried(event); refusal_of(event); undo(many); @held_now; @rooms_now; @passed_now; @came_now;
        @left_now; @tally; @log""",
    ("desk", "Desk"): """(web); hear(text); *hear_all(*texts); @log""",
}
CLASS_METHODS = (
    ("webclasses", "Web", "read_line"), ("timeclasses", "Times", "read_times"), ("machineclasses", "Machine", "of_text"),
    ("smallclasses", "Small", "by_deeds"),
)


def module_of(name):
    return importlib.import_module("stayorgo." + name)


def parts_of(text):
    """The pairs of a name and its parameters in a list of signatures."""
    for part in text.split("),"):
        name, _, rest = part.strip().rstrip(")").partition("(")
        yield name.strip(), "(" + rest + ")"


def signature_of(held, method):
    """The signature of a method without its own object."""
    inner = vars(held)[method]
    if isinstance(inner, classmethod):
        return str(inspect.signature(getattr(held, method)))
    return str(inspect.signature(inner)).replace("(self, ", "(").replace("(self)", "()")


class Interface(unittest.TestCase):
    def test_functions(self):
        told = 0
        for line in FUNCTIONS.strip().split("\n"):
            module, _, rest = line.partition(":")
            for name, signature in parts_of(rest):
                function = getattr(module_of(module), name)
                self.assertTrue(inspect.isfunction(function), name)
                self.assertEqual(function.__module__, "stayorgo." + module, name)
                self.assertEqual(str(inspect.signature(function)), signature, name)
                told += 1
        self.assertEqual(told, 218)

    def test_classes(self):
        for (module, name), text in CLASSES.items():
            held = getattr(module_of(module), name)
            self.assertEqual(held.__module__, "stayorgo." + module)
            first, *parts = [part.strip() for part in text.split(";")]
            self.assertEqual(str(inspect.signature(held)), first)
            for part in parts:
                method, _, rest = part.strip("@*").partition("(")
                self.assertIn(method, vars(held))
                inner = vars(held)[method]
                self.assertEqual(isinstance(inner, property), part.startswith("@"), method)
                self.assertEqual(inspect.isgeneratorfunction(inner), part.startswith("*"), method)
                if not part.startswith("@"):
                    self.assertEqual(signature_of(held, method), "(" + rest, method)
        for module, name, method in CLASS_METHODS:
            self.assertIsInstance(vars(getattr(module_of(module), name))[method], classmethod)
