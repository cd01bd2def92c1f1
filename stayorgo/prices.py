"""What the passes of a rule cost, for prices by the clock."""

from stayorgo.brinkcourses import walk_by
from stayorgo.coins import coin_end_of, goes_by_coins, require_coins
from stayorgo.compares import is_within
from stayorgo.coursekinds import are_loads, goes_of
from stayorgo.courses import go_passes, stay_passes
from stayorgo.loads import product_of
from stayorgo.quotients import plus
from stayorgo.tables import sure_table
from stayorgo.usable import require, size_of
from stayorgo.wishes import require_wish


def is_prices(size, thing):
    """Whether thing is prices of the size."""
    return are_loads(size, thing)


def require_prices(size, prices):
    """prices are prices of the size."""
    require(is_prices(size, prices), "prices")


def price_of(course, passes, prices):
    """The price of the passes; course has those before the moments 0, 1, .. of the prices."""
    total = (0, 1)
    # What goes on at the last moment of the prices, and later, has the last prices.
    for price, goes in zip(prices, goes_of([*course, passes])):
        total = plus(total, product_of(price, goes))
    return total


def never_fall(size, prices):
    """Whether each of the prices is within the next one."""
    require_prices(size, prices)
    return all([is_within(prices[t], prices[t + 1]) for t in range(len(prices) - 1)])


def never_rise(size, prices):
    """Whether each next one of the prices is within the one before."""
    require_prices(size, prices)
    return all([is_within(prices[t + 1], prices[t]) for t in range(len(prices) - 1)])


def go_price(web, start, wish, prices):
    """The price of go-first with the table of the wish as allowance."""
    require_wish(web, start, wish)
    require_prices(size_of(web), prices)
    table = sure_table(web, start, wish)
    return price_of(go_passes(web, start, table, len(prices) - 1), table, prices)


def stay_price(web, start, wish, prices):
    """The price of stay-first with the wish as rooms."""
    require_wish(web, start, wish)
    require_prices(size_of(web), prices)
    table = sure_table(web, start, wish)
    return price_of(stay_passes(web, start, wish, len(prices) - 1), table, prices)


def coin_price(web, start, coins, prices):
    """The price of the coins."""
    require_coins(web, start, coins)
    require_prices(size_of(web), prices)
    passes = coin_end_of(web, start, coins)[1]
    course = walk_by(web, start, [goes_by_coins(coins)] * (len(prices) - 1))[0]
    return price_of(course, passes, prices)
