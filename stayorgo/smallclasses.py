"""The class of webs made smaller, or otherwise, deed by deed."""

from stayorgo.cuts import can_cut, cut_load, cut_web
from stayorgo.kinds import is_below
from stayorgo.lumpings import coarsest, lumped_load, lumped_web
from stayorgo.lumpkinds import is_lumping
from stayorgo.renamings import is_order, renamed_load, renamed_web
from stayorgo.roompapers import is_paper
from stayorgo.splits import is_splitting, split_load, split_web
from stayorgo.tables import table_of
from stayorgo.usable import require, require_load, size_of
from stayorgo.webchecker import is_web


def is_deed(web, thing):
    """Whether thing is a deed that can be done with the web."""
    if is_paper(thing, "cut", 2):
        return can_cut(web, thing[1])
    if is_paper(thing, "lump", 2):
        return is_lumping(web, thing[1])
    if is_paper(thing, "split", 3):
        return is_below(size_of(web), thing[1]) and is_splitting(thing[2])
    return is_paper(thing, "rename", 2) and is_order(size_of(web), thing[1])


def done_web(web, deed):
    """What the deed makes of the web."""
    if deed[0] == "cut":
        return cut_web(web, deed[1])
    if deed[0] == "lump":
        return lumped_web(web, deed[1])
    if deed[0] == "split":
        return split_web(web, deed[1], deed[2])
    return renamed_web(web, deed[1])


def done_load(web, deed, load):
    """What the deed makes of a load of the web's size."""
    if deed[0] == "cut":
        return cut_load(web, deed[1], load)
    if deed[0] == "lump":
        return lumped_load(size_of(web), deed[1], load)
    if deed[0] == "split":
        return split_load(size_of(web), deed[1], deed[2], load)
    return renamed_load(size_of(web), deed[1], load)


def are_deeds(web, thing):
    """Whether thing is a tuple of deeds, each of which can be done with what those ahead of it make of the web."""
    if not isinstance(thing, tuple):
        return False
    now = web
    for deed in thing:
        if not is_deed(now, deed):
            return False
        now = done_web(now, deed)
    return True


class Small:
    """A web and the deeds done with it; it never changes."""

    def __init__(self, web):
        require(is_web(web), "web")
        self.first_web = web
        self.now_web = web
        self.deeds = ()

    def __iter__(self):
        return iter(self.deeds)

    def __eq__(self, other):
        return isinstance(other, Small) and self.first_web == other.first_web and self.deeds == other.deeds

    def with_deed(self, deed):
        """A new object with one deed more."""
        made = Small(self.first_web)
        made.now_web = done_web(self.now_web, deed)
        made.deeds = self.deeds + (deed,)
        return made

    def cut_out(self, *places):
        """A new object with these places cut out."""
        return self.with_deed(("cut", places))

    def lump_by(self, parts, *, most=False):
        """A new object with the parts lumped; with most, as many of their places as can be."""
        require(most is True or most is False, "most")
        return self.with_deed(("lump", coarsest(self.now_web, parts) if most else parts))

    def split_at(self, place, *, spread):
        """A new object with the place split into copies."""
        return self.with_deed(("split", place, spread))

    def rename_by(self, order):
        """A new object with the places in another sequence."""
        return self.with_deed(("rename", order))

    def bring(self, load):
        """What the deeds, in sequence, make of a load of the first web's size."""
        require_load(self.first_web, load, "load")
        web = self.first_web
        brought = load
        for deed in self.deeds:
            brought = done_load(web, deed, brought)
            web = done_web(web, deed)
        return brought

    def both_tables(self, start, rooms):
        """The pair of the table of start and rooms in the first web, and of that of what is brought of both."""
        first = table_of(self.first_web, start, rooms)
        return (first, table_of(self.now_web, self.bring(start), self.bring(rooms)))

    @classmethod
    def by_deeds(cls, web, deeds):
        """A new object for the web with these deeds."""
        require(is_web(web), "web")
        require(are_deeds(web, deeds), "deeds")
        made = cls(web)
        for deed in deeds:
            made = made.with_deed(deed)
        return made
