"""Long runs by which prices are off by as much as one likes."""

from stretchprices.bounds import rest_web
from stretchprices.checks import check_amount
from stretchprices.ratios import minus
from stretchprices.rests import check_same_rows, rest
from stretchprices.ways import rising, run_of


def broken(machine, prices, amount):
    """A long run whose rest is above the amount or below its opposite, or None if the rests lie between two numbers."""
    check_same_rows(machine, prices)
    check_amount(amount)
    for sign in (1, -1):
        web, start, _ = rest_web(machine, prices, sign)
        found = rising(web, start)
        if found is not None:
            return _far(machine, prices, sign, amount, found)
    return None


def _far(machine, prices, sign, amount, found):
    """The way, and the round behind it so many times that the rest times the sign is above the amount."""
    ahead, circle = found
    begun = rest(machine, prices, run_of(ahead))
    top, bottom = minus(rest(machine, prices, run_of(ahead + circle)), begun)
    lacking = amount * begun[1] - sign * begun[0]
    many = lacking * bottom // (begun[1] * sign * top) + 1
    return (run_of(ahead), 1), (run_of(circle), max(many, 0))
