"""Ceilings and floors: how far the rests of runs go up and down."""

from stretchprices.ratios import check_fraction, is_at_most, lowest, minus, plus
from stretchprices.rests import check_same_rows
from stretchprices.stretches import first_tail, shared_bottom
from stretchprices.ways import climb, run_of, summit
from stretchprices.webs import are_heights, places, steps_from


def ceiling(machine, prices):
    """The dict from all places to the greatest rests of runs that lead there, or None."""
    check_same_rows(machine, prices)
    return _extremes(machine, prices, 1)


def floor(machine, prices):
    """The dict from all places to the least rests of runs that lead there, or None."""
    check_same_rows(machine, prices)
    return _extremes(machine, prices, -1)


def most(machine, prices):
    """The greatest rest of all runs and a run that has it, or None."""
    check_same_rows(machine, prices)
    return _extreme(machine, prices, 1)


def fewest(machine, prices):
    """The least rest of all runs and a run that has it, or None."""
    check_same_rows(machine, prices)
    return _extreme(machine, prices, -1)


def gap(machine, prices):
    """The greatest rest less the least one, or None if one of them is lacking."""
    greatest = most(machine, prices)
    least = fewest(machine, prices)
    if greatest is None or least is None:
        return None
    return minus(greatest[0], least[0])


def is_ceiling(machine, prices, bound, thing):
    """Whether it is a dict from all places to fractions up to the bound that no step passes."""
    check_same_rows(machine, prices)
    check_fraction(bound)
    return _is_limit(machine, prices, bound, thing, is_at_most)


def is_floor(machine, prices, bound, thing):
    """Whether it is a dict from all places to fractions down to the bound that no step passes."""
    check_same_rows(machine, prices)
    check_fraction(bound)
    return _is_limit(machine, prices, bound, thing, lambda one, other: is_at_most(other, one))


def rest_web(machine, prices, sign):
    """The web of ways in which a step is worth what it adds to the rest, times the sign and times a bottom.

    The answer is a triple of the web, the place of the empty run and the bottom.
    """
    spots = places(machine, prices.width)
    tops, bottom = shared_bottom(prices)
    web = {}
    for place in spots:
        web[place] = [(step[1:], sign * (spent * bottom - tops[stretch]), there)
                      for step, spent, stretch, there in steps_from(machine, prices.width, place)]
    return web, spots[0], bottom


def _extremes(machine, prices, sign):
    web, start, bottom = rest_web(machine, prices, sign)
    levels, _, _ = climb(web, start)
    if levels is None:
        return None
    return {place: lowest(sign * levels[place], bottom) for place in levels}


def _extreme(machine, prices, sign):
    web, start, bottom = rest_web(machine, prices, sign)
    found = summit(web, start)
    if found is None:
        return None
    number, labels = found
    return lowest(sign * number, bottom), run_of(labels)


def _is_limit(machine, prices, bound, thing, is_within):
    """Whether it leads from all places to fractions within the bound, and within which all rests of runs are."""
    width = prices.width
    spots = places(machine, width)
    if not are_heights(thing, spots) or not all([is_within(height, bound) for height in thing.values()]):
        return False
    if not is_within((0, 1), thing[(0, first_tail(width))]):
        return False
    table = prices.table
    for place in spots:
        for _, spent, stretch, there in steps_from(machine, width, place):
            if not is_within(plus(thing[place], minus((spent, 1), table[stretch])), thing[there]):
                return False
    return True
