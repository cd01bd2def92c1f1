"""The class of machines."""

from stayorgo.behinds import behind, mixed
from stayorgo.kinds import is_bottom
from stayorgo.loads import load_from
from stayorgo.machinechecker import is_machine
from stayorgo.machinecourses import machine_course, pair_course
from stayorgo.machineends import machine_end
from stayorgo.machinepairs import is_sure
from stayorgo.machineprices import machine_price
from stayorgo.machinetexts import machine_line, read_machine
from stayorgo.machinewastes import machine_waste
from stayorgo.twos import later, sooner
from stayorgo.usable import require, require_load, require_number, size_of
from stayorgo.webchecker import is_web


class Machine:
    """A machine of a size; it never changes."""

    def __init__(self, size, machine):
        require(is_bottom(size), "size")
        require(is_machine(size, machine), "machine")
        self.size = size
        self.inside = machine
        self.memories = len(machine[0])
        self.as_text = machine_line(size, machine)

    def __eq__(self, other):
        return isinstance(other, Machine) and self.size == other.size and self.inside == other.inside

    def __call__(self, web, start):
        self.require_fitting(web)
        return machine_end(web, start, self.inside)

    def __rshift__(self, other):
        self.require_alike_tool(other)
        return Machine(self.size, behind(self.size, self.inside, other.inside))

    def __and__(self, other):
        self.require_alike_tool(other)
        return Machine(self.size, sooner(self.size, self.inside, other.inside))

    def __or__(self, other):
        self.require_alike_tool(other)
        return Machine(self.size, later(self.size, self.inside, other.inside))

    def require_fitting(self, web):
        """web is a web of the machine's size."""
        require(is_web(web) and size_of(web) == self.size, "web")

    def require_alike_tool(self, other):
        """other is an object of the class with the same size."""
        require(isinstance(other, Machine) and other.size == self.size, "other")

    def surely(self, web, start):
        """Whether the machine is sure for the start."""
        self.require_fitting(web)
        return is_sure(web, start, self.inside)

    def course_on(self, web, start, *, many=1):
        """The course up to moment many."""
        self.require_fitting(web)
        return machine_course(web, start, self.inside, many)

    def moments_on(self, web, start, many):
        """For each moment from 0 to many the load that stands then, of all memories."""
        self.require_fitting(web)
        require_load(web, start, "start")
        require_number(many, "many")
        for tops, bottom in pair_course(web, start, self.inside, many):
            last = len(tops) - 1
            yield load_from([sum(tops[i:last:self.size]) for i in range(self.size)], bottom)

    def waste_on(self, web, start):
        """For each closed lot the waste of the machine's passes."""
        self.require_fitting(web)
        return machine_waste(web, start, self.inside)

    def price_on(self, web, start, prices):
        """The price of the machine."""
        self.require_fitting(web)
        return machine_price(web, start, self.inside, prices)

    def mix(self, other, *, part=(1, 2)):
        """A new object that goes by this machine with the chance part, else by the other one."""
        self.require_alike_tool(other)
        return Machine(self.size, mixed(self.size, self.inside, other.inside, part))

    @classmethod
    def of_text(cls, size, text):
        """A new object with the machine whose line text is."""
        require(is_bottom(size), "size")
        return cls(size, read_machine(size, text))
