"""Rounds in the pieces of a web, from the first place of a piece back to it."""

from stretchprices.ratios import NOTHING, minus, plus


class Piece:
    """The places of a piece and its steps, with a way from its first place to each place and one back."""

    def __init__(self, spots, steps):
        self.spots = spots
        self.steps = steps
        self.ways = _trails(spots[0], [(step[0][0], step[3]) for step in steps])
        self.backs = _trails(spots[0], [(step[3], step[0][0]) for step in steps])

    def through(self, at):
        """The numbers of the steps of a round that takes the step of this number."""
        step, _, _, there = self.steps[at]
        return self.ways[step[0]] + [at] + self.backs[there]

    def past(self, at):
        """The numbers of the steps of a round that leads where this step leads, by the way to there."""
        there = self.steps[at][3]
        return self.ways[there] + self.backs[there]

    def equation(self, at):
        """What prices must say of the stretches of these two rounds: how many more there are, and the ticks more."""
        sums = {}
        right = 0
        for sign, numbers in ((1, self.through(at)), (-1, self.past(at))):
            for number in numbers:
                _, spent, stretch, _ = self.steps[number]
                sums[stretch] = sums.get(stretch, 0) + sign
                right += sign * spent
        return {stretch: sums[stretch] for stretch in sums if sums[stretch] != 0}, right

    def height(self, place, table):
        """What the way to the place leaves of its ticks less its prices."""
        total = NOTHING
        for number in self.ways[place]:
            _, spent, stretch, _ = self.steps[number]
            total = plus(total, minus((spent, 1), table[stretch]))
        return total


def _trails(start, links):
    """A dict from all places to which links lead, to the numbers of the links of a shortest trail to there."""
    leaving = {}
    for number, (here, _) in enumerate(links):
        leaving.setdefault(here, []).append(number)
    found = {start: []}
    layer = [start]
    while layer:
        fresh = []
        for here in layer:
            for number in leaving.get(here, []):
                there = links[number][1]
                if there not in found:
                    found[there] = found[here] + [number]
                    fresh.append(there)
        layer = fresh
    return found
