"""The waste of machines, and the table that is better."""

from stayorgo.loads import weight_of
from stayorgo.machineends import machine_end
from stayorgo.quotients import minus
from stayorgo.tables import sure_table
from stayorgo.wastes import waste_of


def machine_waste(web, start, machine):
    """For each closed lot the waste of the machine's passes."""
    return waste_of(web, machine_end(web, start, machine)[1])


def better_table(web, start, machine):
    """The triple of the end, its table as a wish, and how much more passes by the machine."""
    end, passes = machine_end(web, start, machine)
    table = sure_table(web, start, end)
    return (end, table, minus(weight_of(passes), weight_of(table)))
