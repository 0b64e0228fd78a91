"""Books, which tell the ticks by prices and heights, and lots, which show that no prices can."""

from stretchprices.checks import is_tuple
from stretchprices.equations import solve
from stretchprices.ratios import NOTHING, minus
from stretchprices.rounds import are_lots, pieces_of, round_equations, two_lots
from stretchprices.stretches import Prices, all_stretches, check_width
from stretchprices.webs import are_heights, inside, inner_steps


def book(machine, width):
    """Prices and heights that tell the ticks of all steps inside pieces, or None."""
    check_width(width)
    found = pieces_of(machine, width)
    solution, _ = solve(round_equations(found, _ended))
    if solution is None:
        return None
    table = {stretch: solution.get(stretch, NOTHING) for stretch in all_stretches(machine.rows, width)}
    heights = {}
    for piece in found:
        for place in piece.spots:
            heights[place] = piece.height(place, table)
    return Prices(machine.rows, width, table), heights


def lots(machine, width):
    """Two lots with the same stretches and unlike ticks, or None."""
    check_width(width)
    found = pieces_of(machine, width)
    _, reason = solve(round_equations(found, _ended))
    if reason is None:
        return None
    return two_lots(found, reason)


def _ended(step):
    """The stretch that a step ends, once, and its ticks."""
    _, spent, stretch, _ = step
    return {stretch: 1}, spent


def is_book(machine, width, thing):
    """Whether it is a book for a machine and a width."""
    check_width(width)
    found = inside(machine, width)
    if not is_tuple(thing, 2) or not isinstance(thing[0], Prices):
        return False
    prices, heights = thing
    if prices.rows != machine.rows or prices.width != width:
        return False
    if not are_heights(heights, [place for spots, _ in found for place in spots]):
        return False
    table = prices.table
    steps = [step for _, inner in found for step in inner]
    return all([_is_told(step, table, heights) for step in steps])


def _is_told(step, table, heights):
    """Whether a step's ticks less the price of its stretch are what the heights say."""
    (place, _, _), spent, stretch, there = step
    return minus((spent, 1), table[stretch]) == minus(heights[there], heights[place])


def is_lots(machine, width, thing):
    """Whether it is a pair of two lots with the same stretches and unlike ticks."""
    check_width(width)
    return are_lots(thing, inner_steps(machine, width), _ended)
