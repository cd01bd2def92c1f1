"""Whole walkers sent by arrows written ahead ([83] to [86]), with what [92] and (G12) say of them."""

import random
import unittest

from stayorgo.sending import arrows_to_come, is_walker_course, row_arrow, standing_after
from stayorgo.settlings import settle, some_course
from stayorgo.tables import can_stay, table_of
from stayorgo.walkerkinds import is_rows, is_walkers
from stayorgo.walkerpapers import lets_walkers, walker_paper
from stayorgo.webclasses import Web

from tests.support import (
    FORK, HALVES, Same, bad_numbers, bad_places, check_refusals, fields_of, raised, subsets,
)

FLIP = (((), (1,)), ((), (0,)))
# From 0 once to 1, then to 0 and 2 in turn; from 1 to 2; from 2 twice to 0, then to 2 over and over.
MIXED = (((1,), (0, 2)), ((), (2,)), ((0, 0), (2,)))


def random_rows(dice, size=None):
    size = size or dice.randint(1, 4)
    place = lambda: dice.randrange(size)
    return tuple(
        (tuple(place() for _ in range(dice.randint(0, 3))), tuple(place() for _ in range(dice.randint(1, 3))))
        for _ in range(size)
    )


def random_walkers(dice, size, most=3):
    return tuple(dice.choice((0, dice.randint(0, most))) for _ in range(size))


def cases(seed, many):
    dice = random.Random(seed)
    for turn in range(many):
        rows = (FLIP, MIXED)[turn] if turn < 2 else random_rows(dice)
        yield dice, rows, random_walkers(dice, len(rows)), random_walkers(dice, len(rows), 2)


def leads(rows, place, many):
    """The place to which arrow number many of the place leads, by writing the arrows out."""
    ahead, loop = rows[place]
    return (list(ahead) + list(loop) * (many // len(loop) + 1))[many]


def walk(rows, walkers, way):
    """The sends and the standing after a way, as lists; None if one has no walker to send."""
    sends, standing = [0] * len(rows), list(walkers)
    for place in way:
        if standing[place] == 0:
            return None
        standing[place] -= 1
        standing[leads(rows, place, sends[place])] += 1
        sends[place] += 1
    return sends, standing


def overfull(standing, seats):
    return [place for place in range(len(seats)) if standing[place] > seats[place]]


def walk_by(rows, walkers, seats, choose, most=400):
    """A walker course by a choice among the overfull places, until it ends, or for the most sends."""
    sends, standing, way = [0] * len(rows), list(walkers), []
    while overfull(standing, seats) and len(way) < most:
        place = choose(overfull(standing, seats))
        standing[place] -= 1
        standing[leads(rows, place, sends[place])] += 1
        sends[place] += 1
        way.append(place)
    return way, sends, standing


def open_arrows(rows, sends):
    """All arrows still to come, by writing the next ones out."""
    return {
        (i, leads(rows, i, many)) for i in range(len(rows))
        for many in range(sends[i], max(sends[i], len(rows[i][0])) + len(rows[i][1]))
    }


def stuck_sets(rows, sends, standing, seats):
    """All sets with more walkers than seats that no arrow still to come leaves, by trying all sets."""
    arrows = open_arrows(rows, sends)
    return [
        places for places in subsets(range(len(rows)))
        if sum(standing[i] - seats[i] for i in places) > 0
        and not any(i in places and j not in places for i, j in arrows)
    ]


def least_first(places):
    return places[0]


def greatest_first(places):
    return places[-1]


class Kinds(unittest.TestCase, Same):
    def test_rows(self):
        dice = random.Random(300)
        for _ in range(60):
            self.same(is_rows(random_rows(dice)), True)
            self.same(is_rows(thing=random_rows(dice)), True)
        self.same((is_rows(FLIP), is_rows((((), (0,)),)), is_rows((((0,) * 7, (0,)),))), (True, True, True))
        for thing in (
            None, True, 0, "", "01", (), [], list(FLIP), FLIP[0], ((), (1,)), (((), ()), ((), (0,))), (((), (2,)), ((), (0,))),
            (((), (1,)),), (((), (1,)), ((), (-1,))), (((), (1,)), ((), (True,))), (((), (1,)), ([], (0,))),
            (((), (1,)), ((), [0])), (((), (1,)), [(), (0,)]), (((), (1,)), ((), (0,), ())), (((), (1,)), ((0,),)),
            (((), (1,)), ((2,), (0,))), (((), (1,)), ((None,), (0,))), (((), (1,)), (("0",), (0,))), (((), (1,)), None),
            (((), (1,)), ((), ((0,),))), (((), (1,)), (0, (0,))), (((), (1,)), ((), 0)), (((), (1,)), "ab"), Web(HALVES),
            (((), (False,)),), 10 ** 59, FLIP + FLIP[:1] + ((),), (1, 2),
        ):
            self.same(is_rows(thing), False, thing)

    def test_walkers(self):
        for size in (1, 2, 5):
            fine = (0,) * (size - 1) + (12,)
            self.same(is_walkers(size, fine), True)
            self.same(is_walkers(size=size, thing=fine), True)
            for thing in (None, True, 0, "", "0" * size, (), [], list(fine), fine + (0,), fine[1:], (-1,) + fine[1:],
                          (True,) + fine[1:], (None,) + fine[1:], ("1",) + fine[1:], ((1,),) + fine[1:], (fine, 1), FORK):
                self.same(is_walkers(size, thing), False, thing)
        self.same(is_walkers(1, (10 ** 59,)), True)


class Sending(unittest.TestCase, Same):
    def test_arrows(self):
        dice = random.Random(301)
        for _ in range(60):
            rows = random_rows(dice)
            for place in range(len(rows)):
                for many in range(12):
                    self.same(row_arrow(rows, place, many), leads(rows, place, many))
                    self.same(row_arrow(rows=rows, place=place, many=many), leads(rows, place, many))
            # Sends below, at and above the number of the arrows ahead.
            for more in (-1, 0, 1, 5):
                sends = tuple(max(0, len(ahead) + more) for ahead, _ in rows)
                told = tuple(sorted(open_arrows(rows, sends)))
                self.same(arrows_to_come(rows, sends), told)
                self.same(arrows_to_come(rows=rows, sends=sends), told)
            sends = tuple(dice.randint(0, 4) for _ in rows)
            self.same(arrows_to_come(rows, sends), tuple(sorted(open_arrows(rows, sends))))
        self.same(row_arrow(MIXED, 0, 10 ** 59), 2)
        self.same(row_arrow(MIXED, 0, 10 ** 59 + 1), 0)
        self.same(arrows_to_come(MIXED, (10 ** 59, 0, 1)), ((0, 0), (0, 2), (1, 2), (2, 0), (2, 2)))

    def test_told(self):
        self.same(arrows_to_come((((1,), (0,)), ((), (1,))), (1, 0)), ((0, 0), (1, 1)))
        self.same(arrows_to_come((((1,), (0,)), ((), (1,))), (0, 0)), ((0, 0), (0, 1), (1, 1)))
        self.same(standing_after(MIXED, (2, 0, 0), (0, 0, 0, 1)), ((3, 1, 0), (0, 0, 2)))
        self.same(standing_after(FLIP, (0, 1), ()), ((0, 0), (0, 1)))
        self.same(standing_after(FLIP, (0, 1), (1, 0, 1)), ((1, 2), (1, 0)))

    def test_standing_after_ways(self):
        told = {True: 0, False: 0}
        for dice, rows, walkers, _ in cases(302, 300):
            way = tuple(dice.randrange(len(rows)) for _ in range(dice.randint(0, 5)))
            found = walk(rows, walkers, way)
            told[found is None] += 1
            if found is None:
                for call in (lambda: standing_after(rows, walkers, way),
                             lambda: standing_after(rows=rows, walkers=walkers, way=way)):
                    self.same(fields_of(raised(call)), ("NotUsable", ("way", -1)))
            else:
                self.same(standing_after(rows, walkers, way), tuple(map(tuple, found)))
                self.same(standing_after(rows=rows, walkers=walkers, way=way), tuple(map(tuple, found)))
        self.assertGreater(min(told.values()), 60)
        long = (0, 1) * 50
        self.same(standing_after(FLIP, (1, 0), long), ((50, 50), (1, 0)))

    def test_walker_courses(self):
        told = {True: 0, False: 0}
        for dice, rows, walkers, seats in cases(303, 300):
            way = walk_by(rows, walkers, seats, dice.choice, 6)[0]
            for held in (way, way[:-1], way + [dice.randrange(len(rows))], [dice.randrange(len(rows))] + way):
                fine = all(
                    place in overfull(walk(rows, walkers, held[:k])[1], seats) for k, place in enumerate(held)
                    if walk(rows, walkers, held[:k])
                ) and walk(rows, walkers, held) is not None
                told[fine] += 1
                self.same(is_walker_course(rows, walkers, seats, tuple(held)), fine)
                named = is_walker_course(rows=rows, walkers=walkers, seats=seats, way=tuple(held))
                self.same(named, fine)
            self.same(is_walker_course(rows, walkers, seats, ()), True)
        self.assertGreater(min(told.values()), 100)
        # A walker at hand is not enough.
        self.same(is_walker_course(FLIP, (1, 0), (1, 0), (0,)), False)
        self.same(is_walker_course(FLIP, (1, 0), (0, 0), (0,)), True)

    def test_refusals(self):
        wrong = [None, True, 0, "", (), [1, 0], (1,), (1, 0, 0), (-1, 0), (True, 0), (1, None), ("1", 0), ((1,), 0)]
        ways = [None, True, 0, "", "01", [], [0], (2,), (-1,), (True,), (None,), ("0",), ((0,),), (0, 2), ([],), 10 ** 59]
        bad = {"walkers": wrong, "seats": wrong, "way": ways, "sends": wrong, "place": bad_places(2), "many": bad_numbers()}
        first, seats = [("rows", FLIP), ("walkers", (2, 0))], [("seats", (1, 1))]
        check_refusals(self, standing_after, first + [("way", (0, 0, 1))], bad)
        check_refusals(self, is_walker_course, first + seats + [("way", (0,))], bad)
        check_refusals(self, arrows_to_come, [("rows", FLIP), ("sends", (1, 0))], bad)
        check_refusals(self, row_arrow, [("rows", FLIP), ("place", 1), ("many", 3)], bad)
        for function in (settle, some_course, walker_paper):
            check_refusals(self, function, first + seats, bad)
        check_refusals(self, lets_walkers, first + seats + [("thing", ("ends", (0,)))], bad)
        for thing in (None, ("ends", None), ("never", (), (0,))):
            self.same(fields_of(raised(lets_walkers, FLIP, None, None, thing)), ("NotUsable", ("walkers", -1)))
            self.same(fields_of(raised(lets_walkers, FLIP, (1, 0), (1,), thing)), ("NotUsable", ("seats", -1)))


class Settling(unittest.TestCase, Same):
    def test_against_courses_by_hand(self):
        ended = {True: 0, False: 0}
        for dice, rows, walkers, seats in cases(304, 500):
            found = [walk_by(rows, walkers, seats, choose) for choose in (least_first, greatest_first, dice.choice)]
            ends = not overfull(found[0][2], seats)
            ended[ends] += 1
            for way, sends, standing in found:
                self.assertEqual(not overfull(standing, seats), ends)
                if ends:
                    self.same(settle(rows, walkers, seats), (tuple(sends), tuple(standing)))
            if ends:
                self.same(settle(rows=rows, walkers=walkers, seats=seats), settle(rows, walkers, seats))
                self.check_course(rows, walkers, seats)
            else:
                self.check_endless(rows, walkers, seats)
        self.assertGreater(min(ended.values()), 120)

    def check_course(self, rows, walkers, seats):
        way = some_course(rows, walkers, seats)
        self.same(some_course(rows=rows, walkers=walkers, seats=seats), way)
        self.same(is_walker_course(rows, walkers, seats, way), True)
        self.same(standing_after(rows, walkers, way), settle(rows, walkers, seats))
        self.same(overfull(settle(rows, walkers, seats)[1], seats), [])

    def check_endless(self, rows, walkers, seats):
        paper = walker_paper(rows, walkers, seats)
        self.same(paper[0], "never")
        _, way, _ = paper
        sends, standing = walk(rows, walkers, way)
        for function in (settle, some_course):
            name, (stuck,) = fields_of(raised(function, rows, walkers, seats))
            self.same(name, "Endless")
            # Such a set stays one: it is one after this course, or was one on the way.
            self.assertIn(stuck, stuck_sets(rows, sends, standing, seats))
            self.same(stuck, tuple(sorted(set(stuck))))

    def test_sends_are_least_of_all_ways_that_leave_no_place_overfull(self):
        told = 0
        for dice, rows, walkers, seats in cases(305, 300):
            if raised(settle, rows, walkers, seats):
                # No way leaves no place overfull.
                for _ in range(5):
                    sends, standing = [0] * len(rows), list(walkers)
                    for _ in range(25):
                        place = dice.choice([i for i in range(len(rows)) if standing[i] > 0])
                        sends, standing = self.one_more(rows, sends, standing, place)
                        self.assertTrue(overfull(standing, seats))
                continue
            least = settle(rows, walkers, seats)[0]
            sends, standing = [0] * len(rows), list(walkers)
            for _ in range(20):
                if not overfull(standing, seats):
                    told += 1
                    self.assertTrue(all(one >= other for one, other in zip(sends, least)))
                held = [i for i in range(len(rows)) if standing[i] > 0]
                if not held:
                    break
                sends, standing = self.one_more(rows, sends, standing, dice.choice(held))
        self.assertGreater(told, 300)

    def one_more(self, rows, sends, standing, place):
        sends, standing = list(sends), list(standing)
        standing[place] -= 1
        standing[leads(rows, place, sends[place])] += 1
        sends[place] += 1
        return sends, standing

    def test_walkers_added_after_an_ended_course(self):
        told = 0
        for dice, rows, walkers, seats in cases(306, 300):
            more = random_walkers(dice, len(rows), 2)
            all_at_once = tuple(one + other for one, other in zip(walkers, more))
            if raised(settle, rows, all_at_once, seats):
                continue
            told += 1
            # The course that has ended with fewer walkers goes on with more of them.
            way = some_course(rows, walkers, seats)
            sends, standing = walk(rows, walkers, way)
            standing = [one + other for one, other in zip(standing, more)]
            while overfull(standing, seats):
                sends, standing = self.one_more(rows, sends, standing, dice.choice(overfull(standing, seats)))
            self.same(settle(rows, all_at_once, seats), (tuple(sends), tuple(standing)))
        self.assertGreater(told, 80)

    def test_in_a_web_of_bottom_1_the_sends_are_the_table(self):
        dice = random.Random(307)
        told = {True: 0, False: 0}
        for _ in range(200):
            size = dice.randint(1, 5)
            nexts = [dice.randrange(size) for _ in range(size)]
            web = (tuple(tuple(int(j == nexts[i]) for j in range(size)) for i in range(size)), 1)
            rows = tuple(((), (j,)) for j in nexts)
            walkers, seats = random_walkers(dice, size), random_walkers(dice, size)
            fits = can_stay(web, (walkers, 1), (seats, 1))
            told[fits] += 1
            refusal = raised(settle, rows, walkers, seats)
            self.same(refusal and fields_of(refusal)[0], None if fits else "Endless")
            if fits:
                self.same((settle(rows, walkers, seats)[0], 1), table_of(web, (walkers, 1), (seats, 1)))
        self.assertGreater(min(told.values()), 30)

    def test_told(self):
        self.same(fields_of(raised(settle, FLIP, (2, 0), (1, 0))), ("Endless", ((0, 1),)))
        self.same(settle(FLIP, (2, 0), (1, 1)), ((1, 0), (1, 1)))
        self.same(some_course(FLIP, (2, 0), (1, 1)), (0,))
        self.same(settle(FLIP, (0, 0), (0, 0)), ((0, 0), (0, 0)))
        self.same(some_course(FLIP, (1, 1), (1, 1)), ())
        self.same(settle(MIXED, (3, 0, 0), (1, 1, 1)), ((3, 0, 0), (1, 1, 1)))
        self.same(fields_of(raised(settle, (((), (0,)),), (1,), (0,))), ("Endless", ((0,),)))

    def test_a_set_judged_by_the_arrows_still_to_come(self):
        # The arrow ahead leads out of place 0; only when it is used up the walkers are caught there.
        rows = (((1,), (0,)), ((), (1,)))
        self.same(settle(rows, (2, 0), (1, 1)), ((1, 0), (1, 1)))
        self.same(fields_of(raised(settle, rows, (3, 0), (1, 1)))[1][0] in ((0,), (0, 1)), True)
        self.same(lets_walkers(rows, (3, 0), (1, 1), ("never", (0,), (0,))), False)
        self.refuses_paper("open", 2, lets_walkers, rows, (3, 0), (1, 1), ("never", (), (0,)))

    def test_greatest(self):
        # Eight places in a ring, a dozen walkers at one of them: a seat at each place, and more than one at some.
        rows = tuple(((), ((i + 1) - (i + 1) // 8 * 8,)) for i in range(8))
        walkers = (12,) + (0,) * 7
        self.same(settle(rows, walkers, (1, 2, 1, 2, 1, 2, 1, 2))[1], (1, 2, 1, 2, 1, 2, 1, 2))
        self.same(fields_of(raised(settle, rows, walkers, (1, 2, 1, 2, 1, 2, 1, 1))), ("Endless", (tuple(range(8)),)))
        dice = random.Random(308)
        for _ in range(20):
            rows = tuple(
                (tuple(dice.randrange(8) for _ in range(4)), tuple(dice.randrange(8) for _ in range(4))) for _ in range(8)
            )
            walkers, seats = [0] * 8, [0] * 8
            for _ in range(12):
                walkers[dice.randrange(8)] += 1
                seats[dice.randrange(8)] += 1
            paper = walker_paper(rows, tuple(walkers), tuple(seats))
            self.same(lets_walkers(rows, tuple(walkers), tuple(seats), paper), paper[0] == "ends")

    def test_no_place_waits_while_others_go_round(self):
        # Places 0 and 1 send for a very long time, while 2 and 3 never come to rest.
        rows = (((1,) * 60, (0,)), ((0,) * 60, (1,)), ((), (3,)), ((), (2,)))
        self.same(fields_of(raised(settle, rows, (1, 0, 1, 0), (0, 0, 0, 0)))[0], "Endless")
        self.assertLess(len(walker_paper(rows, (1, 0, 1, 0), (0, 0, 0, 0))[1]), 100)


class Papers(unittest.TestCase, Same):
    def test_papers_are_accepted(self):
        told = {True: 0, False: 0}
        for _, rows, walkers, seats in cases(309, 400):
            paper = walker_paper(rows, walkers, seats)
            self.same(walker_paper(rows=rows, walkers=walkers, seats=seats), paper)
            ends = raised(settle, rows, walkers, seats) is None
            told[ends] += 1
            self.same(lets_walkers(rows, walkers, seats, paper), ends)
            self.same(lets_walkers(rows=rows, walkers=walkers, seats=seats, thing=paper), ends)
            self.same((len(paper), paper[0]), (2, "ends") if ends else (3, "never"))
        self.assertGreater(min(told.values()), 80)

    def slow_judge(self, rows, walkers, seats, thing):
        """The first entry of the list that applies, or what is returned; thing has the shape, a way and a set."""
        for k, place in enumerate(thing[1]):
            if place not in overfull(walk(rows, walkers, thing[1][:k])[1], seats):
                return ("overfull", k)
        sends, standing = walk(rows, walkers, thing[1])
        if thing[0] == "ends":
            return ("still", -1) if overfull(standing, seats) else True
        if any(i in thing[2] and j not in thing[2] for i, j in open_arrows(rows, sends)):
            return ("open", 2)
        return ("held", 2) if sum(standing[i] - seats[i] for i in thing[2]) <= 0 else False

    def test_judged_by_hand(self):
        told = {}
        for dice, rows, walkers, seats in cases(310, 500):
            way = tuple(walk_by(rows, walkers, seats, dice.choice, dice.choice((2, 5, 60)))[0])
            if dice.random() < 0.2:
                way = way + (dice.randrange(len(rows)),)
            places = dice.choice(list(subsets(range(len(rows)))))
            for thing in (("ends", way), ("never", way, places), ("never", way, tuple(range(len(rows))))):
                found = self.slow_judge(rows, walkers, seats, thing)
                word = found if isinstance(found, bool) else found[0]
                told[word] = told.get(word, 0) + 1
                if isinstance(found, bool):
                    self.same(lets_walkers(rows, walkers, seats, thing), found)
                else:
                    self.refuses_paper(*found, lets_walkers, rows, walkers, seats, thing)
        self.assertEqual(set(told), {True, False, "overfull", "still", "open", "held"})
        self.assertGreater(min(told.values()), 15)

    def refuses(self, word, at, thing, seats=(1, 0)):
        self.refuses_paper(word, at, lets_walkers, FLIP, (2, 0), seats, thing)

    def test_shapes_and_ways(self):
        for thing in (None, True, 0, "", "ends", (), ("ends",), ("ends", (), ()), ("never", ()), ("never", (), (), ()),
                      ["ends", ()], ["never", (), ()], ("Ends", ()), (True, ()), ("ends ", ()), ((), "ends"), ("gap", (), ())):
            self.refuses("shape", -1, thing)
        for way in (None, True, 0, "", "00", [], [0], (2,), (-1,), (True,), (None,), ("0",), ((0,),), (0, None), (0, 0, 2)):
            self.refuses("way", 1, ("ends", way))
            self.refuses("way", 1, ("never", way, None))

    def test_entries_in_their_sequence(self):
        self.refuses("overfull", 1, ("never", (0, 0), (0, 1)))
        self.refuses("overfull", 0, ("ends", (1,)))
        self.refuses("overfull", 2, ("never", (0, 1, 1), None))
        self.refuses("still", -1, ("ends", ()))
        self.refuses("still", -1, ("ends", (0,)))
        for places in (None, True, 0, "", [0, 1], (1, 0), (0, 0), (2,), (-1,), (0, 2), (True,), (None,), ((0, 1),)):
            self.refuses("places", 2, ("never", (), places))
            self.refuses("overfull", 0, ("never", (1,), places))
        self.refuses("open", 2, ("never", (), (0,)))
        self.refuses("open", 2, ("never", (0,), (1,)))
        self.refuses("held", 2, ("never", (), ()))
        self.refuses("held", 2, ("never", (0,), (0, 1)), (1, 1))
        self.refuses("open", 2, ("never", (), (1,)), (0, 5))
        self.same(lets_walkers(FLIP, (2, 0), (1, 0), ("never", (), (0, 1))), False)
        self.same(lets_walkers(FLIP, (2, 0), (1, 0), ("never", (0, 1), (0, 1))), False)
        self.same(lets_walkers(FLIP, (2, 0), (1, 1), ("ends", (0,))), True)
        self.same(lets_walkers(FLIP, (1, 0), (1, 1), ("ends", ())), True)
