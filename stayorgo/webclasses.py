"""The class of webs."""

from stayorgo.arrows import closed_lots, fleeting_places, is_arrow
from stayorgo.stepping import stepped, walked
from stayorgo.usable import require, size_of
from stayorgo.webchecker import is_web
from stayorgo.webmaking import beside, row_of
from stayorgo.webtexts import read_web, web_line


class Web:
    """A web, with what is often asked of it."""

    def __init__(self, web):
        require(is_web(web), "web")
        self.inner = web
        self.chances = tuple([row_of(web, place) for place in range(size_of(web))])
        self.lots = closed_lots(web)
        self.fleeting = fleeting_places(web)
        self.as_line = web_line(web)

    def __len__(self):
        return len(self.chances)

    def __iter__(self):
        return iter(self.chances)

    def __contains__(self, thing):
        return is_arrow(self.inner, thing)

    def __eq__(self, other):
        return isinstance(other, Web) and self.inner == other.inner

    def __call__(self, start):
        return stepped(self.inner, start)

    def __add__(self, other):
        require(isinstance(other, Web), "other")
        return Web(beside(self.inner, other.inner))

    def walk(self, start, *, many=1):
        """start stepped many times over."""
        return walked(self.inner, start, many)

    @classmethod
    def read_line(cls, text):
        """A new object with the web whose line text is."""
        return cls(read_web(text))
