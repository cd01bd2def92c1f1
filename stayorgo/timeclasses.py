"""The class of a web with a timetable."""

from stayorgo.compares import is_within
from stayorgo.kinds import is_load
from stayorgo.loads import no_load
from stayorgo.timechecker import is_timetable
from stayorgo.timecourses import kept_by, time_course, time_kept, time_stay
from stayorgo.timeends import can_keep, keeps_to, time_end, time_passes
from stayorgo.timemaking import coming_in_all
from stayorgo.timerests import at_rest
from stayorgo.timetexts import read_timetable, timetable_line
from stayorgo.usable import require, require_load, require_number, size_of
from stayorgo.webchecker import is_web


class Times:
    """A web with a timetable; it never changes."""

    def __init__(self, web, timetable):
        require(is_web(web), "web")
        require(is_timetable(size_of(web), timetable), "timetable")
        self.web = web
        self.timetable = timetable

    def __len__(self):
        return len(self.timetable)

    def __iter__(self):
        return iter(self.timetable)

    def __eq__(self, other):
        return isinstance(other, Times) and self.web == other.web and self.timetable == other.timetable

    @property
    def all_comings(self):
        """What came by the last moment."""
        return coming_in_all(size_of(self.web), self.timetable)

    @property
    def told_line(self):
        """The line of the timetable."""
        return timetable_line(self.timetable)

    def both_given(self):
        """The pair (web, timetable)."""
        return (self.web, self.timetable)

    def passes_to(self, many):
        """The course of stay-first up to moment many."""
        return time_course(self.web, self.timetable, many)

    def stays_to(self, many):
        """What had stayed by the moments 0 to many - 1."""
        return time_kept(self.web, self.timetable, many)

    def at_last(self):
        """The pair of what stands at the last moment, and of the rooms left then."""
        return at_rest(self.web, self.timetable)

    def can_hold(self):
        """Whether some sure rule keeps to the timetable."""
        return can_keep(self.web, self.timetable)

    def passes_in_all(self):
        """All passes of stay-first."""
        return time_passes(self.web, self.timetable)

    def stays_in_all(self):
        """The end of stay-first."""
        return time_end(self.web, self.timetable)

    def is_kept_by(self, course):
        """Whether what had stayed by the course is at no moment more than the rooms."""
        return keeps_to(self.web, self.timetable, course)

    def next_moment(self, coming, *, rooms=None):
        """A new object with one moment more; without rooms of its own it has the last ones."""
        require_load(self.web, coming, "coming")
        last = self.timetable[-1][1]
        if rooms is None:
            return Times(self.web, self.timetable + ((coming, last),))
        require(is_load(size_of(self.web), rooms) and is_within(last, rooms), "rooms")
        return Times(self.web, self.timetable + ((coming, rooms),))

    def delayed(self, *, many=1):
        """A new object with many more moments ahead, at which nothing comes."""
        require_number(many, "many")
        waiting = (no_load(size_of(self.web)), self.timetable[0][1])
        return Times(self.web, (waiting,) * many + self.timetable)

    @classmethod
    def read_times(cls, web, text):
        """A new object with the timetable whose line text is."""
        require(is_web(web), "web")
        timetable = read_timetable(text)
        require(is_timetable(size_of(web), timetable), "text")
        return cls(web, timetable)

    def through(self):
        """For each moment the triple of it, of stay-first's passes before it, and of what had stayed by it."""
        course = time_stay(self.web, self.timetable, len(self.timetable))
        for moment, kept in enumerate(kept_by(self.web, self.timetable, course)):
            yield (moment, course[moment], kept)
