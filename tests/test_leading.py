"""Leading by dice ([87]), and what [92] says of it."""

import random
import unittest
from fractions import Fraction
from itertools import product

from stayorgo.brinkcourses import go_by, stay_by
from stayorgo.coins import coin_course
from stayorgo.leading import arrow_by, coin_word, go_word, is_die, led, stay_word
from stayorgo.loads import unit_load
from stayorgo.webclasses import Web

from tests.support import (
    BOARD, FORK, HALVES, TURN, WEBS, Same, bad_amounts, bad_brinks, bad_coins, bad_numbers, bad_places, chance,
    check_refusals, fields_of, make_quotient, raised, random_web, size_of, values,
)
from tests.test_courses import random_brinks

MARKS = ((1, (0, 1)), (1, (1, 2)), (0, (0, 1)))
NONE = (0, 1)


def die_of(top, bottom):
    return make_quotient(Fraction(top, bottom))


def random_die(dice):
    bottom = dice.choice((1, 2, 3, 4, 6, 12))
    return die_of(dice.randrange(bottom), bottom)


def bad_dice():
    """Values that are no dice."""
    return bad_amounts() + [(1, 1), (2, 1), (3, 2), (10 ** 12 + 1, 10 ** 12)]


def slow_word(manner, marks, place, moment, die):
    mark = marks[place]
    if manner == "coin":
        return "stay" if Fraction(*die) < Fraction(*mark) else "go"
    first, then = ("go", "stay") if manner == "go" else ("stay", "go")
    if mark is None or moment < mark[0]:
        return first
    return first if moment == mark[0] and Fraction(*die) < Fraction(*mark[1]) else then


def slow_next(web, place, die):
    total = Fraction(0)
    for target in range(size_of(web)):
        total += chance(web, place, target)
        if Fraction(*die) < total:
            return target
    raise AssertionError("no die")


class Words(unittest.TestCase, Same):
    def test_dice(self):
        for thing in ((0, 1), (1, 2), (59, 60), (10 ** 12 - 1, 10 ** 12)):
            self.same(is_die(thing), True)
            self.same(is_die(thing=thing), True)
        for thing in bad_dice() + [Web(TURN), None, [0, 1]]:
            self.same(is_die(thing), False, thing)

    def test_moments_below_at_and_above_the_brink(self):
        brinks = ((2, (1, 3)), None, (0, (0, 1)))
        for many in range(5):
            for die in ((0, 1), (1, 4), (1, 3), (1, 2), (5, 6)):
                for place in range(3):
                    told = slow_word("go", brinks, place, many, die)
                    self.same(go_word(brinks, place, many, die), told)
                    self.same(go_word(brinks=brinks, place=place, many=many, die=die), told)
                    told = slow_word("stay", brinks, place, many, die)
                    self.same(stay_word(brinks, place, many, die), told)
                    self.same(stay_word(brinks=brinks, place=place, many=many, die=die), told)
        # The die at the part is not below it.
        self.same([go_word(brinks, 0, many, (1, 3)) for many in range(4)], ["go", "go", "stay", "stay"])
        self.same([go_word(brinks, 0, many, (1, 4)) for many in range(4)], ["go", "go", "go", "stay"])
        self.same([stay_word(brinks, 0, many, (1, 4)) for many in range(4)], ["stay", "stay", "stay", "go"])
        self.same((go_word(brinks, 1, 10 ** 9, (5, 6)), stay_word(brinks, 1, 10 ** 9, (5, 6))), ("go", "stay"))
        self.same((go_word(brinks, 2, 0, (0, 1)), stay_word(brinks, 2, 0, (0, 1))), ("stay", "go"))

    def test_random_words(self):
        dice = random.Random(320)
        for _ in range(200):
            brinks, many, die = random_brinks(dice, dice.randint(1, 5)), dice.randint(0, 9), random_die(dice)
            place = dice.randrange(len(brinks))
            self.same(go_word(brinks, place, many, die), slow_word("go", brinks, place, many, die))
            self.same(stay_word(brinks, place, many, die), slow_word("stay", brinks, place, many, die))

    def test_coins(self):
        coins = ((0, 1), (1, 1), (1, 3))
        for die in ((0, 1), (1, 4), (1, 3), (1, 2), (59, 60)):
            for place in range(3):
                told = slow_word("coin", coins, place, 0, die)
                self.same(coin_word(coins, place, die), told)
                self.same(coin_word(coins=coins, place=place, die=die), told)
        self.same([coin_word(coins, 2, die) for die in ((1, 4), (1, 3), (1, 2))], ["stay", "go", "go"])
        self.same((coin_word(coins, 0, (0, 1)), coin_word(coins, 1, (59, 60))), ("go", "stay"))

    def test_arrows_at_the_sums_of_the_chances(self):
        dice = random.Random(321)
        for web in list(WEBS) + [random_web(dice) for _ in range(20)]:
            for place in range(size_of(web)):
                sums = [sum((chance(web, place, j) for j in range(k + 1)), Fraction(0)) for k in range(size_of(web))]
                for number in [Fraction(0)] + sums:
                    for near in (number, number - Fraction(1, 10 ** 6), number + Fraction(1, 10 ** 6)):
                        if 0 <= near < 1:
                            die = make_quotient(near)
                            self.same(arrow_by(web, place, die), slow_next(web, place, die))
                            self.same(arrow_by(web=web, place=place, die=die), slow_next(web, place, die))
        self.same([arrow_by(FORK, 0, die) for die in ((0, 1), (49, 100), (1, 2), (99, 100))], [1, 1, 2, 2])
        self.same([arrow_by(BOARD, 2, die) for die in ((0, 1), (1, 5), (1, 4), (1, 3))], [1, 1, 3, 3])

    def test_refusals(self):
        bad = {"brinks": [None, True, 0, "", (), [None], (0, (1, 2)), (None, 1), ((0, (1, 1)),), [(0, (1, 2))]],
               "coins": [None, True, 0, "", (), [(1, 1)], (1, 1), ((2, 1),), ((1, 1), None), ((-1, 2),)],
               "place": bad_places(3), "many": bad_numbers(), "die": bad_dice()}
        bad["brinks"] += [thing for thing in bad_brinks(3) if thing not in ((None,) * 2, (None,) * 4)]
        bad["coins"] += [thing for thing in bad_coins(3) if thing not in (((1, 1),) * 2, ((1, 1),) * 4)]
        for function in (go_word, stay_word):
            check_refusals(self, function, [("brinks", MARKS), ("place", 2), ("many", 1), ("die", (1, 2))], bad)
        check_refusals(self, coin_word, [("coins", ((1, 2),) * 3), ("place", 2), ("die", (1, 2))], bad)
        check_refusals(self, arrow_by, [("web", FORK), ("place", 2), ("die", (1, 2))], bad)
        for size in (1, 2):
            self.same(fields_of(raised(go_word, (None,) * size, size, 0, (0, 1))), ("NotUsable", ("place", -1)))
            self.same(fields_of(raised(coin_word, ((1, 1),) * size, size, (0, 1))), ("NotUsable", ("place", -1)))


def random_marks(dice, manner, size):
    if manner == "coin":
        return tuple(dice.choice(((0, 1), (1, 1), (1, 2), (1, 3), (1, 4))) for _ in range(size))
    return random_brinks(dice, size)


class Led(unittest.TestCase, Same):
    def test_step_by_step(self):
        dice = random.Random(322)
        told = {True: 0, False: 0}
        lengths = set()
        for turn in range(300):
            web = WEBS[turn % len(WEBS)] if turn % 2 else random_web(dice)
            manner, place = dice.choice(("go", "stay", "coin")), dice.randrange(size_of(web))
            marks = random_marks(dice, manner, size_of(web))
            pairs = tuple((random_die(dice), random_die(dice)) for _ in range(dice.choice((0, 1, 3, 8, 16))))
            way, stays = [place], False
            for moment, (first, second) in enumerate(pairs):
                if slow_word(manner, marks, way[-1], moment, first) == "stay":
                    stays = True
                    break
                way.append(slow_next(web, way[-1], second))
            told[stays] += 1
            lengths.add(len(way))
            self.same(led(web, manner, marks, place, pairs), (tuple(way), stays))
            named = led(web=web, manner=manner, marks=marks, place=place, dice=pairs)
            self.same(named, (tuple(way), stays))
        self.assertGreater(min(told.values()), 60)
        self.assertGreaterEqual(len(lengths), 5)

    def test_told(self):
        pairs = (((0, 1), (1, 4)), ((1, 4), (0, 1)), ((0, 1), (0, 1)))
        self.same(led(FORK, "go", MARKS, 0, pairs), ((0, 1, 2), True))
        self.same(led(FORK, "go", MARKS, 0, pairs[:2]), ((0, 1, 2), False))
        self.same(led(FORK, "stay", MARKS, 0, pairs), ((0,), True))
        self.same(led(FORK, "go", MARKS, 0, ()), ((0,), False))
        # Dice that outlast the staying.
        self.same(led(TURN, "coin", ((0, 1), (1, 1)), 0, ((NONE, NONE),) * 16), ((0, 1), True))
        self.same(led(TURN, "coin", ((0, 1), (0, 1)), 0, ((NONE, NONE),) * 16), ((0, 1) * 8 + (0,), False))

    def test_all_tuples_of_dice_beside_the_course(self):
        dice = random.Random(323)
        for manner, course in (("go", go_by), ("stay", stay_by), ("coin", coin_course)):
            for web, bottom in ((HALVES, 2), (FORK, 2), (TURN, 3), (BOARD, 4)):
                size, length = size_of(web), 3 if bottom == 2 else 2
                parts = [make_quotient(Fraction(k, bottom)) for k in range(bottom)]
                marks = tuple(
                    dice.choice(parts + [(1, 1)]) if manner == "coin"
                    else dice.choice((None, (dice.randint(0, 2), dice.choice(parts)))) for _ in range(size)
                )
                place = dice.randrange(size)
                pairs = list(product([die_of(k, bottom) for k in range(bottom)], repeat=2))
                gone = [[Fraction(0)] * size for _ in range(length)]
                for told in product(pairs, repeat=length):
                    way, stays = led(web, manner, marks, place, told)
                    # A walker goes on from each place of the way but from the last one.
                    for moment, here in enumerate(way[:-1]):
                        gone[moment][here] += Fraction(1, len(pairs) ** length)
                    self.assertEqual(len(way) == length + 1, not stays)
                passes = course(web, unit_load(size, place), marks, length)
                for moment in range(length):
                    goes = [later - sooner for later, sooner in zip(values(passes[moment + 1]), values(passes[moment]))]
                    self.assertEqual(gone[moment], goes, (manner, web, marks))

    def test_refusals(self):
        dice = [None, True, 0, "", [], [((0, 1), (0, 1))], ((0, 1),), (((0, 1), (0, 1)), None), (((0, 1),),),
                (((0, 1), (0, 1), (0, 1)),), ([(0, 1), (0, 1)],), 10 ** 59]
        dice += [((die, (0, 1)),) for die in bad_dice()] + [(((0, 1), (0, 1)), ((0, 1), die)) for die in bad_dice()]
        manners = [None, True, 0, "", "Go", "go ", "stays", "gostay", ("go",), ["go"], (), Web(TURN)]
        good = [("web", FORK), ("manner", "go"), ("marks", MARKS), ("place", 0), ("dice", (((0, 1), (0, 1)),))]
        brinks = bad_brinks(3) + [((1, 1),) * 3, ((1, 2),) * 3]
        coins = bad_coins(3) + [MARKS, (None,) * 3]
        bad = {"manner": manners, "place": bad_places(3), "dice": dice}
        for manner, marks, wrong in (("go", MARKS, brinks), ("stay", MARKS, brinks), ("coin", ((1, 2),) * 3, coins)):
            good[1], good[2] = ("manner", manner), ("marks", marks)
            check_refusals(self, led, good, {**bad, "marks": wrong})
        self.same(fields_of(raised(led, FORK, None, None, None, None)), ("NotUsable", ("manner", -1)))
        # The dice are held to be such even where the walker stays before them.
        stays = (((0, 1), (0, 1)), ((0, 1), (1, 1)))
        self.same(fields_of(raised(led, FORK, "stay", MARKS, 0, stays)), ("NotUsable", ("dice", -1)))
