"""Books, which tell the ticks by prices and heights, and lots, which show that no prices can."""

from stretchprices.checks import is_integer, is_tuple
from stretchprices.equations import solve
from stretchprices.ratios import NOTHING, is_fraction, minus
from stretchprices.rounds import Piece
from stretchprices.stretches import Prices, all_stretches, check_width
from stretchprices.webs import inside, is_place, is_step


def book(machine, width):
    """Prices and heights that tell the ticks of all steps inside pieces, or None."""
    check_width(width)
    found = [Piece(spots, steps) for spots, steps in inside(machine, width)]
    solution, _ = solve(_equations(found))
    if solution is None:
        return None
    table = {stretch: solution.get(stretch, NOTHING) for stretch in all_stretches(machine.rows, width)}
    heights = {}
    for piece in found:
        for place in piece.spots:
            heights[place] = piece.height(place, table)
    return Prices(machine.rows, width, table), heights


def lots(machine, width):
    """Two lots with the same stretches and unlike ticks, or None."""
    check_width(width)
    found = [Piece(spots, steps) for spots, steps in inside(machine, width)]
    _, reason = solve(_equations(found))
    if reason is None:
        return None
    one = {}
    other = {}
    rounds = _step_numbers(found)
    for number in reason:
        piece, at = rounds[number]
        many = reason[number]
        _put_in(one if many > 0 else other, piece, piece.through(at), abs(many))
        _put_in(other if many > 0 else one, piece, piece.past(at), abs(many))
    return one, other


def _step_numbers(found):
    """The list of the pairs (piece, number of a step of it) of all pieces."""
    return [(piece, at) for piece in found for at in range(len(piece.steps))]


def _equations(found):
    return [piece.equation(at) for piece, at in _step_numbers(found)]


def _put_in(lot, piece, numbers, many):
    """Put a round into a lot so many times."""
    for number in numbers:
        step = piece.steps[number][0]
        lot[step] = lot.get(step, 0) + many


def is_book(machine, width, thing):
    """Whether it is a book for a machine and a width."""
    check_width(width)
    found = inside(machine, width)
    if not is_tuple(thing, 2) or not isinstance(thing[0], Prices) or not isinstance(thing[1], dict):
        return False
    prices, heights = thing
    if prices.rows != machine.rows or prices.width != width:
        return False
    if not _are_heights(heights, [place for spots, _ in found for place in spots]):
        return False
    table = prices.table
    steps = [step for _, inner in found for step in inner]
    return all([_is_told(step, table, heights) for step in steps])


def _are_heights(heights, spots):
    """Whether the dict leads from exactly these places to fractions."""
    # A flag is found in a dict where a number stands, so that the form of each key is looked at, too.
    if len(heights) != len(spots) or not all([is_place(place) for place in heights]):
        return False
    return all([place in heights and is_fraction(heights[place]) for place in spots])


def _is_told(step, table, heights):
    """Whether a step's ticks less the price of its stretch are what the heights say."""
    (place, _, _), spent, stretch, there = step
    return minus((spent, 1), table[stretch]) == minus(heights[there], heights[place])


def is_lots(machine, width, thing):
    """Whether it is a pair of two lots with the same stretches and unlike ticks."""
    check_width(width)
    steps = {step[0]: step for _, inner in inside(machine, width) for step in inner}
    if not is_tuple(thing, 2) or not is_lot(thing[0], steps) or not is_lot(thing[1], steps):
        return False
    spent, ended = _told(thing[0], steps)
    other_spent, other_ended = _told(thing[1], steps)
    return ended == other_ended and spent != other_spent


def is_lot(thing, steps):
    """Whether it is a lot of these steps, a dict from them to what they do."""
    if not isinstance(thing, dict) or not all([is_step(step) and step in steps for step in thing]):
        return False
    if not all([is_integer(many) and many >= 1 for many in thing.values()]):
        return False
    over = {}
    for step in thing:
        place, there = step[0], steps[step][3]
        over[place] = over.get(place, 0) - thing[step]
        over[there] = over.get(there, 0) + thing[step]
    return all([many == 0 for many in over.values()])


def _told(lot, steps):
    """The ticks of a lot, and a dict from its stretches to how often it ends them."""
    total = 0
    ended = {}
    for step in lot:
        _, spent, stretch, _ = steps[step]
        total += spent * lot[step]
        ended[stretch] = ended.get(stretch, 0) + lot[step]
    return total, ended
