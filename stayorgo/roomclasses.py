"""The class of a start and rooms on a web."""

from stayorgo.ends import first_end, require_fewer, room_left
from stayorgo.firsts import is_end
from stayorgo.gaps import gaps_of
from stayorgo.loads import added, weight_of
from stayorgo.morerooms import greatest_share, least_more
from stayorgo.roompapers import lets_room, room_paper
from stayorgo.tables import can_stay, table_of
from stayorgo.usable import require, require_load, require_rooms
from stayorgo.webchecker import is_web


class Rooms:
    """A start and rooms on a web, with a table or none; it never changes."""

    def __init__(self, web, start, rooms):
        require(is_web(web), "web")
        require_rooms(web, start, rooms)
        self.web = web
        self.start = start
        self.rooms = rooms

    def given(self):
        """The triple (web, start, rooms)."""
        return (self.web, self.start, self.rooms)

    def fits(self):
        """Whether there is a table."""
        return can_stay(self.web, self.start, self.rooms)

    def find_table(self):
        """The table."""
        return table_of(self.web, self.start, self.rooms)

    def find_end(self):
        """The first end."""
        return first_end(self.web, self.start, self.rooms)

    def find_left(self):
        """The rooms less the first end."""
        return room_left(self.web, self.start, self.rooms)

    def find_need(self):
        """The weight of the table."""
        return weight_of(table_of(self.web, self.start, self.rooms))

    def find_gaps(self):
        """The set of all pairs (closed, barred) whose hope has a gap above 0."""
        return gaps_of(self.web, self.start, self.rooms)

    def find_help(self, place):
        """The least more room at place with which there is a table, or None."""
        return least_more(self.web, self.start, self.rooms, place)

    def find_share(self):
        """The greatest quotient such that it times the start and the rooms have a table, or None."""
        return greatest_share(self.web, self.start, self.rooms)

    def find_paper(self):
        """A paper that shows that there is a table, or that there is none."""
        return room_paper(self.web, self.start, self.rooms)

    def judge(self, thing):
        """Whether there is a table, as the accepted paper shows."""
        return lets_room(self.web, self.start, self.rooms, thing)

    def takes_end(self, target):
        """Whether target is within the rooms and can be come to from the start."""
        return is_end(self.web, self.start, self.rooms, target)

    def and_more(self, extra):
        """A new object for start + extra and the same rooms."""
        require_load(self.web, extra, "extra")
        return Rooms(self.web, added(self.start, extra), self.rooms)

    def with_fewer(self, fewer):
        """A new object for the same start with fewer as rooms."""
        require_fewer(self.rooms, fewer)
        return Rooms(self.web, self.start, fewer)
