"""Linear equations over whole numbers, solved in fractions, with a reason where they cannot be."""

from math import gcd, lcm

from stretchprices.ratios import lowest


def solve(equations):
    """Solve equations, each a pair of a dict from unknowns to whole numbers and the number that is their sum.

    The answer is a pair: a dict from unknowns to fractions by which all equations hold, where unknowns that are lacking
    are 0, and None; or None and a dict from numbers of equations to whole numbers: that many times each, the equations
    together say that 0 is something else.
    """
    system = System()
    settled = False
    while not settled:
        settled = True
        for number, (sums, right) in enumerate(equations):
            if system.holds(sums, right):
                continue
            settled = False
            reason = system.take(number, sums, right)
            if reason is not None:
                return None, reason
    return system.solution(), None


class System:
    """Equations of which each one is solved for an unknown that none of the others has.

    An equation is kept as a triple (sums, right, origin): how many times each of the equations that were taken is in it
    is its origin.
    """

    def __init__(self):
        self.solved = {}
        self.tops = {}
        self.bottom = 1

    def holds(self, sums, right):
        """Whether an equation holds by the solution so far."""
        total = 0
        for unknown in sums:
            total += sums[unknown] * self.tops.get(unknown, 0)
        return total == right * self.bottom

    def take(self, number, sums, right):
        """Take an equation that does not hold so far; the answer is None, or its origin if none can be."""
        equation = (sums, right, {number: 1})
        for unknown in sums:
            if unknown in self.solved:
                equation = without(equation, self.solved[unknown], unknown)
        if not equation[0]:
            return equation[2]
        # A small number ahead of the unknown keeps all numbers small.
        chosen = min([(abs(equation[0][unknown]), unknown) for unknown in equation[0]])[1]
        for unknown in list(self.solved):
            self.solved[unknown] = without(self.solved[unknown], equation, chosen)
        self.solved[chosen] = equation
        self._work_out()
        return None

    def solution(self):
        """A dict from unknowns to fractions; those that are lacking are 0."""
        return {unknown: lowest(self.tops[unknown], self.bottom) for unknown in self.tops}

    def _work_out(self):
        """Work the solution out by which all unknowns are 0 that no equation is solved for."""
        bottom = 1
        for unknown in self.solved:
            bottom = lcm(bottom, self.solved[unknown][0][unknown])
        self.bottom = bottom
        self.tops = {}
        for unknown in self.solved:
            sums, right, _ = self.solved[unknown]
            self.tops[unknown] = right * (bottom // sums[unknown])


def without(equation, other, unknown):
    """The equation with so much of the other one that the unknown is not in it any more."""
    few = equation[0].get(unknown, 0)
    if few == 0:
        return equation
    many = other[0][unknown]
    sums = _mixed(many, equation[0], few, other[0])
    origin = _mixed(many, equation[2], few, other[2])
    return _shrunk(sums, many * equation[1] - few * other[1], origin)


def _mixed(many, one, few, other):
    """Many times the numbers of the one less few times those of the other, without those that are 0."""
    mixed = {key: many * one[key] for key in one}
    for key in other:
        mixed[key] = mixed.get(key, 0) - few * other[key]
    return {key: mixed[key] for key in mixed if mixed[key] != 0}


def _shrunk(sums, right, origin):
    """The equation with all numbers divided by what divides all of them."""
    common = right
    for number in list(sums.values()) + list(origin.values()):
        common = gcd(common, number)
    shrunk = {unknown: sums[unknown] // common for unknown in sums}
    return shrunk, right // common, {number: origin[number] // common for number in origin}
