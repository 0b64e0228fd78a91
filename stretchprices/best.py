"""The best prices of a width, and balances, which show that none are better."""

from stretchprices.checks import is_tuple
from stretchprices.ratios import NOTHING, check_fraction, is_at_most, is_fraction, minus, plus, times
from stretchprices.simplex import Tableau
from stretchprices.stretches import Prices, all_stretches, check_width
from stretchprices.webs import is_step, places, places_up_to, steps_from

MOST_PLACES = 16


def best(machine, width):
    """The least gap of all prices of this width, and prices that have it, or None."""
    tableau = _solved(machine, width)
    if tableau is None:
        return None
    table = {stretch: tableau.cost(("price", stretch)) for stretch in all_stretches(machine.rows, width)}
    return tableau.total(), Prices(machine.rows, width, table)


def balance(machine, width):
    """A balance whose gap is the least gap of all prices of this width, or None."""
    tableau = _solved(machine, width)
    if tableau is None:
        return None
    found = []
    for side in ("more", "less"):
        worths = {unknown[1]: tableau.worth(unknown) for unknown in tableau.solved if unknown[0] == side}
        found.append({step: worths[step] for step in worths if worths[step] != NOTHING})
    return found[0], found[1]


def _solved(machine, width):
    """The tableau of the balance with the greatest gap, or None if there is none.

    Its unknowns are ("more", step) and ("less", step), of both flows how often they take a step, ("more end", place)
    and ("less end", place), how often they end at a place, and ("price", stretch), how much the flows are off at a
    stretch, which is barred.
    """
    check_width(width)
    spots = places_up_to(machine, width, MOST_PLACES)
    flows = {"more": _furthest(machine, width, spots, 1), "less": _furthest(machine, width, spots, -1)}
    worths = {}
    for side, sign in (("more", 1), ("less", -1)):
        worths.update({(side, step): sign * spent for step, spent, _, _ in flows[side]})
    tableau = Tableau(worths)
    for side in ("more", "less"):
        _take_places(tableau, side, spots, flows[side])
    barred = _take_stretches(tableau, all_stretches(machine.rows, width), flows)
    if not tableau.raise_goal(barred):
        return None
    return tableau


def _furthest(machine, width, spots, sign):
    """Of all steps between the same places with the same row, one whose ticks times the sign are most."""
    found = {}
    for place in spots:
        for step in steps_from(machine, width, place):
            between = (place, step[2], step[3])
            if between not in found or sign * step[1] > sign * found[between][1]:
                found[between] = step
    return list(found.values())


def _take_places(tableau, side, spots, steps):
    """Take for each place: what leads away and what ends there is what leads there, and one for the empty run."""
    sums = {place: {(side + " end", place): 1} for place in spots}
    for step, _, _, there in steps:
        if step[0] != there:
            sums[step[0]][(side, step)] = 1
            sums[there][(side, step)] = -1
    for place in spots:
        tableau.take(sums[place], 1 if place == spots[0] else 0, (side + " end", place))


def _take_stretches(tableau, stretches, flows):
    """Take for each stretch: less ends it as much as more; the answer is a dict of the unknowns that are barred."""
    sums = {stretch: {("price", stretch): -1} for stretch in stretches}
    chosen = {}
    for side, sign in (("more", -1), ("less", 1)):
        for step, _, stretch, _ in flows[side]:
            sums[stretch][(side, step)] = sign
            chosen[stretch] = (side, step)
    for stretch in stretches:
        tableau.take(sums[stretch], 0, chosen[stretch])
    return {("price", stretch): True for stretch in stretches}


def is_balance(machine, width, bound, thing):
    """Whether it is a balance whose gap is at least the bound."""
    check_width(width)
    check_fraction(bound)
    spots = places(machine, width)
    steps = {step[0]: step for place in spots for step in steps_from(machine, width, place)}
    if not is_tuple(thing, 2) or not all([_is_flow(flow, spots, steps) for flow in thing]):
        return False
    spent, ended = _told(thing[0], steps)
    other_spent, other_ended = _told(thing[1], steps)
    return ended == other_ended and is_at_most(bound, minus(spent, other_spent))


def _is_flow(thing, spots, steps):
    """Whether it is a flow of these steps, a dict from them to what they do."""
    if not isinstance(thing, dict) or not all([is_step(step) and step in steps for step in thing]):
        return False
    if not all([is_fraction(worth) and worth[0] > 0 for worth in thing.values()]):
        return False
    over = {place: NOTHING for place in spots}
    over[spots[0]] = (1, 1)
    for step in thing:
        place, there = step[0], steps[step][3]
        over[place] = minus(over[place], thing[step])
        over[there] = plus(over[there], thing[step])
    return all([is_at_most(NOTHING, worth) for worth in over.values()])


def _told(flow, steps):
    """The ticks of a flow, and a dict from its stretches to how much it ends them."""
    total = NOTHING
    ended = {}
    for step in flow:
        _, spent, stretch, _ = steps[step]
        total = plus(total, times((spent, 1), flow[step]))
        ended[stretch] = plus(ended.get(stretch, NOTHING), flow[step])
    return total, ended
