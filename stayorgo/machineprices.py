"""What the passes of a machine cost, for prices by the clock."""

from stayorgo.machinecourses import machine_passes
from stayorgo.machineends import machine_end_of
from stayorgo.machinepairs import require_machine
from stayorgo.prices import price_of, require_prices
from stayorgo.usable import size_of


def machine_price(web, start, machine, prices):
    """The price of the machine."""
    require_machine(web, start, machine)
    require_prices(size_of(web), prices)
    passes = machine_end_of(web, start, machine)[1]
    return price_of(machine_passes(web, start, machine, len(prices) - 1), passes, prices)
