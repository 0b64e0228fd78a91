"""Longest ways by rounds over all links, and webs of places and of pairs of standings, told from the moves alone."""

import math
import random
from fractions import Fraction

from stretchprices.machines import Machine
from stretchprices.webs import places
from helpers import pair, walk


def longest(links, start):
    """The greatest sums of ways to all spots, by links (spot, worth, spot behind), or None if they rise on."""
    heights = {start: 0}
    for _ in range(len({link[2] for link in links}) + 2):
        before = dict(heights)
        for here, worth, there in links:
            if here in heights and heights[here] + worth > heights.get(there, heights[here] + worth - 1):
                heights[there] = heights[here] + worth
        if before == heights:
            return heights
    return None


def all_steps(machine, width):
    """All steps of all places: a dict to their ticks, the stretches that they end and the places behind."""
    found = {}
    for place in places(machine, width):
        for at, row in enumerate(machine.rows):
            for answer, (spent, there) in enumerate(machine.moves[place[0]][at]):
                stretch = place[1] + row
                found[place, row, answer] = (spent, stretch, (there, stretch[1:] if len(stretch) == width else stretch))
    return found


def slow_rests(machine, prices, sign):
    """The greatest (least for the sign -1) rests of runs to all places, as Fractions, or None."""
    table = prices.table
    scale = math.lcm(*(bottom for _, bottom in table.values()))
    links = [(step[0], int(sign * scale * (spent - Fraction(*table[stretch]))), there)
             for step, (spent, stretch, there) in all_steps(machine, prices.width).items()]
    found = longest(links, (0, "" if prices.width == 1 else "^"))
    return found and {place: Fraction(sign * found[place], scale) for place in found}


def pair_links(one, other, start, choices):
    """All links of pairs of standings: a list of (pair, (row, answer, answer), ticks, ticks, pair behind)."""
    found, spots = [], [start]
    for here in spots:
        for row in one.rows:
            for first, second in choices:
                spent, to = walk(one, (row, (first,)), here[0])
                other_spent, other_to = walk(other, (row, (second,)), here[1])
                found.append((here, (row, first, second), spent, other_spent, (to, other_to)))
                if (to, other_to) not in spots:
                    spots.append((to, other_to))
    return found


def same(answers):
    return [(k, k) for k in range(answers)]


def kinder(answers):
    return [(k, n) for n in range(answers) for k in range(n + 1)]


def both(run, other):
    """Two runs, one behind the other."""
    return run[0] + other[0], run[1] + other[1]


def sloping_machine(seed, rows, answers, size, most=99):
    """A machine whose standings lead upwards to the last one, which stays and takes as long for all answers."""
    draw = random.Random(seed)
    moves = [tuple(tuple((draw.randint(1, most), draw.randint(here + 1, size - 1)) for _ in range(answers))
                   for _ in rows) for here in range(size - 1)]
    moves.append(tuple(((draw.randint(1, most), size - 1),) * answers for _ in rows))
    return Machine(rows, answers, tuple(moves))


def ring_machine(spans, rows="a", answers=1):
    """A machine whose standings lead round, one behind the other, with these ticks."""
    size = len(spans)
    return Machine(rows, answers, tuple((((spent, (here + 1) % size),) * answers,) * len(rows)
                                        for here, spent in enumerate(spans)))


def pairs_of(values):
    """A dict with its values written as fractions."""
    return {key: pair(values[key]) for key in values}


def spoiled_places(place):
    """Keys that are like a place but none of the same web."""
    here, tail = place
    found = [(here, tail, 0), (here,), here, tail, None, (str(here), tail), (tail, here), (here + 99, tail),
             (here, tail + "a"), (here, "^^" + tail), (-1, tail), (here, None), ((here,), tail), True, (), ((), ())]
    return found + ([(bool(here), tail)] if here < 2 else [])


def spoiled_fractions(worth):
    """Things that are like a fraction but none."""
    top, bottom = worth
    return [[top, bottom], (2 * top, 2 * bottom), (-top, -bottom), (top, True), (True, 1), (top,), (top, bottom, 1),
            (top, 0), (top, -bottom), top, str(top), None, (), (None, 1), (top, "1"), ((top, bottom), 1), b"1", True]


def spoiled_integers(number):
    """Things that are like an integer but none."""
    return [(number, 1), (number,), [number], str(number), None, True, False, (), {}, b"1", {number: number}]
