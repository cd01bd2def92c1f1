"""Coins: the share that stays of what comes to a place, at each moment."""

from stayorgo.arrows import lots_within, reached_by
from stayorgo.brinkcourses import part_of, walk_by
from stayorgo.brinkends import is_least
from stayorgo.ends import end_after
from stayorgo.errors import Endless
from stayorgo.kinds import is_amount
from stayorgo.loads import added, entry_of, load_of, places_of, unit_load
from stayorgo.quotients import is_less, minus, over, times
from stayorgo.solving import flow_on
from stayorgo.tables import sure_table
from stayorgo.usable import require, require_load, require_number, size_of
from stayorgo.webmaking import row_of, web_from
from stayorgo.wishes import require_wish


def are_coins(thing):
    """Whether thing is a tuple of quotients from 0 to 1."""
    if not isinstance(thing, tuple):
        return False
    return all([is_amount(coin) and not is_less((1, 1), coin) for coin in thing])


def is_coins(size, thing):
    """Whether thing is coins of the size."""
    return are_coins(thing) and len(thing) == size


def require_coins(web, start, coins):
    """start is a load, coins are coins of the web's size."""
    require_load(web, start, "start")
    require(is_coins(size_of(web), coins), "coins")


def goes_by_coins(coins):
    """For each place the share that goes on."""
    return [minus((1, 1), coin) for coin in coins]


def coins_for(wish, table):
    """The coins wish / (wish + table), (1, 1) where both are 0."""
    both = added(wish, table)
    return tuple([
        over(entry_of(wish, place), entry_of(both, place)) if both[0][place] > 0 else (1, 1)
        for place in range(len(both[0]))
    ])


def web_with_keep(web, coins):
    """The web with one place more, which keeps all that stays by the coins."""
    size = size_of(web)
    goes = goes_by_coins(coins)
    rows = [
        load_of(tuple([times(entry_of(row_of(web, i), j), goes[i]) for j in range(size)] + [coins[i]]))
        for i in range(size)
    ]
    return web_from(rows + [unit_load(size + 1, size)])


def coin_end_of(web, start, coins):
    """The pair (end, passes) of the coins."""
    wider = web_with_keep(web, coins)
    comes = tuple([place for place in reached_by(wider, places_of(start)) if place < size_of(web)])
    lots = lots_within(wider, comes)
    if lots:
        raise Endless(lots[0])
    tops, bottom = flow_on(wider, comes, start[0], start[1])
    passes = part_of((tops[:-1], bottom), goes_by_coins(coins))
    return (end_after(web, start, passes), passes)


def coin_of(web, start, wish):
    """The coins by which the wish is the end, and its table the passes."""
    require_wish(web, start, wish)
    return coins_for(wish, sure_table(web, start, wish))


def coin_course(web, start, coins, many):
    """The course of the coins up to moment many."""
    require_coins(web, start, coins)
    require_number(many, "many")
    return tuple(walk_by(web, start, [goes_by_coins(coins)] * many)[0])


def coin_end(web, start, coins):
    """The pair (end, passes) of the coins."""
    require_coins(web, start, coins)
    return coin_end_of(web, start, coins)


def is_least_coin(web, start, coins):
    """Whether the passes of the coins are the table of their end."""
    require_coins(web, start, coins)
    end, passes = coin_end_of(web, start, coins)
    return is_least(web, start, end, passes)
