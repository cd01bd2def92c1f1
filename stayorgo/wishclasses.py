"""The class of a start with a wish."""

from stayorgo.arrows import closed_lots
from stayorgo.kinds import is_load
from stayorgo.loads import weight_of
from stayorgo.passings import are_passes, left_by
from stayorgo.usable import require, size_of
from stayorgo.wastes import waste_of, wasted
from stayorgo.ways import goes_by
from stayorgo.webchecker import is_web
from stayorgo.wishes import wish_table


class Wish:
    """A start with a wish on a web; it never changes."""

    def __init__(self, web, start, wish):
        require(is_web(web), "web")
        self.web = web
        self.start = start
        self.wish = wish
        self.table = wish_table(web, start, wish)

    def __eq__(self, other):
        return (
            isinstance(other, Wish) and self.web == other.web and self.start == other.start and self.wish == other.wish
        )

    def told(self):
        """The triple (web, start, wish)."""
        return (self.web, self.start, self.wish)

    def passed(self):
        """The table of the wish."""
        return self.table

    @property
    def least_need(self):
        """The weight of the table."""
        return weight_of(self.table)

    def never_passed(self):
        """For each closed lot, the lot and its first place at which the table is 0."""
        for lot in closed_lots(self.web):
            yield (lot, [place for place in lot if self.table[0][place] == 0][0])

    def is_met_by(self, thing):
        """Whether thing is the passes of some sure rule with the wish as its end."""
        if not (is_load(size_of(self.web), thing) and are_passes(self.web, self.start, thing)):
            return False
        return left_by(self.web, self.start, thing) == self.wish

    def waste_by(self, passes):
        """The waste of passes that meet the wish."""
        require(self.is_met_by(passes), "passes")
        return waste_of(self.web, passes)

    def with_waste(self, closed, *, factor=(1, 1)):
        """The table with the shares of closed times the factor added."""
        return wasted(self.web, self.table, closed, factor)

    def going_on(self, wish):
        """A new object from the own wish, as start, to the wish."""
        return Wish(self.web, self.wish, wish)

    def leads_by(self, middle):
        """Whether the way by the middle takes no more passes than the way at once."""
        return goes_by(self.web, self.start, middle, self.wish)
