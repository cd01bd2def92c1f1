"""The class of live houses."""

from stayorgo.compares import is_within
from stayorgo.ends import end_after
from stayorgo.errors import InvalidEvent, NothingToUndo
from stayorgo.growing import grown
from stayorgo.kinds import is_amount
from stayorgo.liveevents import are_events, is_event
from stayorgo.loads import added, entry_of, load_of, no_load, scaled, taken, unit_load
from stayorgo.usable import require, require_number, require_place, size_of
from stayorgo.webchecker import is_web


def at_place(size, place, amount):
    """The load that is the amount at the place and 0 elsewhere."""
    return scaled(unit_load(size, place), amount)


def with_room(rooms, place, amount):
    """The rooms with the amount at the place."""
    return load_of(tuple([amount if i == place else entry_of(rooms, i) for i in range(len(rooms[0]))]))


def moved_in(web, held, rooms, passed):
    """The pair of the first end of what is held, and of the passes with its table added; None without a table."""
    table = grown(web, held, rooms)[1]
    return None if table is None else (end_after(web, held, table), added(passed, table))


def after_event(web, loads, event):
    """The pair (reason, loads): the reason that refuses the event, or None and the five loads after it.

    The loads are what is held, the rooms, the passes, what came, what left.
    """
    held, rooms, passed, came, left = loads
    word, place, amount = event
    change = at_place(size_of(web), place, amount)
    if word == "leave":
        if not is_within(change, held):
            return ("held", loads)
        return (None, (taken(held, change), rooms, passed, came, added(left, change)))
    if word == "come":
        held = added(held, change)
        came = added(came, change)
    else:
        rooms = with_room(rooms, place, amount)
    both = moved_in(web, held, rooms, passed)
    if both is None:
        return ("gap", loads)
    return (None, (both[0], rooms, both[1], came, left))


class LiveHouse:
    """What is held within rooms on a web, kept event by event."""

    def __init__(self, web):
        require(is_web(web), "web")
        self.web = web
        # The loads at the beginning, and after each event that happened.
        self.states = [(no_load(size_of(web)),) * 5]
        self.happened = []
        self.refused = 0
        self.undone = 0

    def let_happen(self, event):
        """Lets the event, of the web's size, happen; InvalidEvent if it is refused."""
        reason, loads = after_event(self.web, self.states[-1], event)
        if reason is not None:
            self.refused = self.refused + 1
            raise InvalidEvent(event, reason)
        self.states.append(loads)
        self.happened.append(event)

    def require_event(self, event):
        """event is an event of the web's size."""
        require(is_event(size_of(self.web), event), "event")

    def require_change(self, place, amount):
        """place is a place of the web, amount a quotient of at least 0."""
        require_place(self.web, place, "place")
        require(is_amount(amount), "amount")

    def take_back(self, many):
        """Takes back the last many events."""
        kept = len(self.happened) - many
        self.states = self.states[:kept + 1]
        self.happened = self.happened[:kept]

    def come(self, place, amount):
        """The amount comes to the place."""
        self.require_change(place, amount)
        self.let_happen(("come", place, amount))

    def set_room(self, place, amount):
        """The room at the place becomes the amount."""
        self.require_change(place, amount)
        self.let_happen(("room", place, amount))

    def leave(self, place, amount):
        """The amount leaves the place."""
        self.require_change(place, amount)
        self.let_happen(("leave", place, amount))

    def go(self, event):
        """Lets the event happen."""
        self.require_event(event)
        self.let_happen(event)

    def do_all(self, events):
        """Lets all events happen in turn, or none of them."""
        require(are_events(size_of(self.web), events), "events")
        before = len(self.happened)
        try:
            for event in events:
                self.let_happen(event)
        except InvalidEvent:
            self.take_back(len(self.happened) - before)
            raise

    def tried(self, event):
        """Lets the event happen; whether it was not refused."""
        self.require_event(event)
        try:
            self.let_happen(event)
        except InvalidEvent:
            return False
        return True

    def refusal_of(self, event):
        """The reason that would refuse the event, or None."""
        self.require_event(event)
        return after_event(self.web, self.states[-1], event)[0]

    def undo(self, many):
        """Takes back the last many events."""
        require_number(many, "many")
        if many > len(self.happened):
            raise NothingToUndo(many)
        self.take_back(many)
        self.undone = self.undone + many

    @property
    def held_now(self):
        """What is held."""
        return self.states[-1][0]

    @property
    def rooms_now(self):
        """The rooms."""
        return self.states[-1][1]

    @property
    def passed_now(self):
        """The passes."""
        return self.states[-1][2]

    @property
    def came_now(self):
        """What came."""
        return self.states[-1][3]

    @property
    def left_now(self):
        """What left."""
        return self.states[-1][4]

    @property
    def tally(self):
        """How many events the log has, how many were refused, how many were taken back by undo."""
        return (len(self.happened), self.refused, self.undone)

    @property
    def log(self):
        """The pair of the web and the tuple of the events that happened and are not taken back."""
        return (self.web, tuple(self.happened))
