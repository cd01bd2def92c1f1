"""The class of a start with a wish, and a moment."""

from stayorgo.brinks import go_brinks, stay_brinks
from stayorgo.coins import coins_for
from stayorgo.courses import go_passes, stay_passes
from stayorgo.loads import taken
from stayorgo.prices import coin_price, go_price, require_prices, stay_price
from stayorgo.rests import rests_from
from stayorgo.usable import require, require_number, size_of
from stayorgo.webchecker import is_web
from stayorgo.wishes import wish_table


class Clock:
    """A start with a wish on a web, by a clock: go-first and stay-first up to a moment."""

    def __init__(self, web, start, wish):
        require(is_web(web), "web")
        self.web = web
        self.start = start
        self.wish = wish
        self.table = wish_table(web, start, wish)
        self.moment = 0

    def __eq__(self, other):
        return (
            isinstance(other, Clock) and self.web == other.web and self.start == other.start and self.wish == other.wish
            and self.moment == other.moment
        )

    def __bool__(self):
        rest = rests_from(self.web, self.table, self.wish, self.moment)[-1]
        return any([top > 0 for top in rest[0]])

    @property
    def moment_now(self):
        """The moment."""
        return self.moment

    def tick(self, *, many=1):
        """Adds many to the moment; the sum."""
        require_number(many, "many")
        self.moment = self.moment + many
        return self.moment

    def stay_to(self, many):
        """The list of stay-first's passes before the moments 0 to many."""
        return stay_passes(self.web, self.start, self.wish, many)

    def go_to(self, many):
        """The list of go-first's passes before the moments 0 to many."""
        return go_passes(self.web, self.start, self.table, many)

    def both_passes(self):
        """The pair of stay-first's and go-first's passes before the moment."""
        return (self.stay_to(self.moment)[-1], self.go_to(self.moment)[-1])

    def both_rests(self):
        """The pair of stay-first's and go-first's rests at the moment."""
        return self.look_ahead(0)

    def look_ahead(self, many):
        """The pair of both rests many moments later; the moment stays."""
        require_number(many, "many")
        then = self.moment + many
        return (taken(self.table, self.stay_to(then)[-1]), taken(self.table, self.go_to(then)[-1]))

    def moments_to(self, many):
        """For each moment from 0 to many the triple of it and of both passes before it."""
        require_number(many, "many")
        goes = self.go_to(many)
        for moment, passes in enumerate(self.stay_to(many)):
            yield (moment, passes, goes[moment])

    def both_brinks(self, many):
        """The pair of stay-first's and go-first's brinks below many."""
        stays = stay_brinks(self.web, self.start, self.wish, many)
        return (stays, go_brinks(self.web, self.start, self.table, many))

    def price_by(self, prices, *, manner="go"):
        """The price of go-first, of stay-first, or of the coins."""
        require_prices(size_of(self.web), prices)
        require(manner in ("go", "stay", "coin"), "manner")
        if manner == "go":
            return go_price(self.web, self.start, self.wish, prices)
        if manner == "stay":
            return stay_price(self.web, self.start, self.wish, prices)
        return coin_price(self.web, self.start, coins_for(self.wish, self.table), prices)
