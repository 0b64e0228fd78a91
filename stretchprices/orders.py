"""Orders of codes that keep some rows ahead of others, and which of them are quickest or cheapest."""

from itertools import permutations

from stretchprices.checks import LETTERS, is_code, is_integer, is_tuple
from stretchprices.errors import NoBefores, NoCode
from stretchprices.ratios import lowest
from stretchprices.rests import check_same_rows
from stretchprices.stretches import charged, check_code, first_tail, shared_bottom

MOST_ROWS = 7


def orders(code, befores):
    """The ascending list of all orders of the code that keep the befores."""
    _check_order(LETTERS, code, befores)
    return _orders(code, befores)


def worst(machine, code):
    """The greatest ticks of runs with this code."""
    check_code(code, machine.rows)
    return _worst(machine, code)


def quickest(machine, code, befores):
    """The least worst of all orders, and the least order that has it."""
    _check_order(machine.rows, code, befores)
    return min([(_worst(machine, order), order) for order in _orders(code, befores)])


def cheapest(prices, code, befores):
    """The least price of all orders, and the least order that has it."""
    _check_order(prices.rows, code, befores)
    tops, bottom = shared_bottom(prices)
    start = first_tail(prices.width)
    costs = [(charged(tops, prices.width, start, order)[0], order) for order in _orders(code, befores)]
    top, order = min(costs)
    return lowest(top, bottom), order


def waste(machine, prices, code, befores):
    """How much the worst of the cheapest order is above the least worst."""
    check_same_rows(machine, prices)
    _check_order(machine.rows, code, befores)
    return _worst(machine, cheapest(prices, code, befores)[1]) - quickest(machine, code, befores)[0]


def _orders(code, befores):
    pairs = list({pair: True for pair in befores})
    found = {}
    for dealt in permutations(range(len(code))):
        # A place's number here is where its row stands.
        if all([dealt[ahead] < dealt[behind] for ahead, behind in pairs]):
            found[_dealt(code, dealt)] = True
    return sorted(found)


def _dealt(code, dealt):
    """The code in which each row stands where it is dealt to."""
    rows = list(code)
    for at, row in enumerate(code):
        rows[dealt[at]] = row
    return "".join(rows)


def _worst(machine, code):
    levels = {0: 0}
    for row in code:
        at = machine.rows.index(row)
        fresh = {}
        for here in levels:
            for spent, there in machine.moves[here][at]:
                fresh[there] = max(levels[here] + spent, fresh.get(there, 0))
        levels = fresh
    return max(levels.values())


def _check_order(rows, code, befores):
    """Raise the errors for what is no code over the rows of at most 7 rows, and for what is no befores for it."""
    check_code(code, rows)
    if len(code) > MOST_ROWS:
        raise NoCode()
    if not isinstance(befores, (list, tuple)) or not all([_is_before(pair, len(code)) for pair in befores]):
        raise NoBefores()


def _is_before(thing, many):
    """Whether it is a pair of two of so many places, the first one ahead of the second one."""
    if not is_tuple(thing, 2) or not is_integer(thing[0]) or not is_integer(thing[1]):
        return False
    return 0 <= thing[0] < thing[1] < many
