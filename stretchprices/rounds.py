"""Rounds in the pieces of a web, from the first place of a piece back to it, and lots that are put together of them."""

from stretchprices.checks import is_integer, is_tuple
from stretchprices.ratios import NOTHING, minus, plus
from stretchprices.webs import inside, is_step


class Piece:
    """The places of a piece and its steps, with a way from its first place to each place and one back."""

    def __init__(self, spots, steps):
        self.spots = spots
        self.steps = steps
        self.ways = _trails(spots[0], [(step[0][0], step[3]) for step in steps])
        self.backs = _trails(spots[0], [(step[3], step[0][0]) for step in steps])

    def through(self, at):
        """The numbers of the steps of a round that takes the step of this number."""
        step, _, _, there = self.steps[at]
        return self.ways[step[0]] + [at] + self.backs[there]

    def past(self, at):
        """The numbers of the steps of a round that leads where this step leads, by the way to there."""
        there = self.steps[at][3]
        return self.ways[there] + self.backs[there]

    def equation(self, at, tell):
        """What must be said of these two rounds: how many more of each unknown there are, and how much more in all.

        tell(step) is the pair of a dict from unknowns to how many of them a step has, and how much it is in all.
        """
        sums = {}
        right = 0
        for sign, numbers in ((1, self.through(at)), (-1, self.past(at))):
            for number in numbers:
                few, amount = tell(self.steps[number])
                right += sign * amount
                for unknown in few:
                    sums[unknown] = sums.get(unknown, 0) + sign * few[unknown]
        return {unknown: sums[unknown] for unknown in sums if sums[unknown] != 0}, right

    def height(self, place, table):
        """What the way to the place leaves of its ticks less its prices."""
        total = NOTHING
        for number in self.ways[place]:
            _, spent, stretch, _ = self.steps[number]
            total = plus(total, minus((spent, 1), table[stretch]))
        return total


def pieces_of(machine, width):
    """The list of all pieces."""
    return [Piece(spots, steps) for spots, steps in inside(machine, width)]


def round_equations(found, tell):
    """The list of the equations of all steps of the pieces."""
    return [piece.equation(at, tell) for piece, at in _step_numbers(found)]


def two_lots(found, reason):
    """The two lots of rounds that show why the equations of the pieces cannot hold.

    The reason tells how many times each of the equations is in the one that says that 0 is something else.
    """
    one = {}
    other = {}
    rounds = _step_numbers(found)
    for number in reason:
        piece, at = rounds[number]
        many = reason[number]
        _put_in(one if many > 0 else other, piece, piece.through(at), abs(many))
        _put_in(other if many > 0 else one, piece, piece.past(at), abs(many))
    return one, other


def _step_numbers(found):
    """The list of the pairs (piece, number of a step of it) of all pieces."""
    return [(piece, at) for piece in found for at in range(len(piece.steps))]


def _put_in(lot, piece, numbers, many):
    """Put a round into a lot so many times."""
    for number in numbers:
        step = piece.steps[number][0]
        lot[step] = lot.get(step, 0) + many


def are_lots(thing, steps, tell):
    """Whether it is a pair of two lots of these steps that have as many of each unknown and are unlike in all.

    The steps are a dict from them to what they do, and tell is that of Piece.equation.
    """
    if not is_tuple(thing, 2) or not is_lot(thing[0], steps) or not is_lot(thing[1], steps):
        return False
    sums, total = _told(thing[0], steps, tell)
    other_sums, other_total = _told(thing[1], steps, tell)
    return sums == other_sums and total != other_total


def is_lot(thing, steps):
    """Whether it is a lot of these steps, a dict from them to what they do."""
    if not isinstance(thing, dict) or not all([is_step(step) and step in steps for step in thing]):
        return False
    if not all([is_integer(many) and many >= 1 for many in thing.values()]):
        return False
    over = {}
    for step in thing:
        place, there = step[0], steps[step][3]
        over[place] = over.get(place, 0) - thing[step]
        over[there] = over.get(there, 0) + thing[step]
    return all([many == 0 for many in over.values()])


def _told(lot, steps, tell):
    """How many of each unknown a lot has, those that are 0 left out, and how much it is in all."""
    sums = {}
    total = 0
    for step in lot:
        few, amount = tell(steps[step])
        total += lot[step] * amount
        for unknown in few:
            sums[unknown] = sums.get(unknown, 0) + lot[step] * few[unknown]
    return {unknown: sums[unknown] for unknown in sums if sums[unknown] != 0}, total


def _trails(start, links):
    """A dict from all places to which links lead, to the numbers of the links of a shortest trail to there."""
    leaving = {}
    for number, (here, _) in enumerate(links):
        leaving.setdefault(here, []).append(number)
    found = {start: []}
    layer = [start]
    while layer:
        fresh = []
        for here in layer:
            for number in leaving.get(here, []):
                there = links[number][1]
                if there not in found:
                    found[there] = found[here] + [number]
                    fresh.append(there)
        layer = fresh
    return found
