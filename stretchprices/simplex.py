"""The greatest worth of a sum of unknowns from 0 on, by linear equations over whole numbers."""

from stretchprices.equations import without
from stretchprices.ratios import lowest

GOAL = "goal"


class Tableau:
    """Equations of which each is solved for an unknown from 0 on that none of the others has, and a sum to be raised.

    An equation is kept as a triple (sums, right, {}), as the equations of a System, which know where they come from.
    Its own unknown is in it more than 0 times, and its right side is from 0 on.
    """

    def __init__(self, worths):
        """Worths is a dict from unknowns to whole numbers: what each of them adds to the sum."""
        sums = {unknown: -worths[unknown] for unknown in worths if worths[unknown] != 0}
        self.goal = ({GOAL: 1, **sums}, 0, {})
        self.solved = {}
        self.order = []

    def take(self, sums, right, chosen):
        """Take an equation solved for the chosen unknown, for which no equation is solved.

        So that the right sides of the others stay, its own one is 0 where the others have the chosen one.
        """
        self._turn((sums, right, {}), chosen)
        self.order.append(chosen)

    def raise_goal(self, barred):
        """Make the sum as great as can be with 0 for the barred unknowns; whether there is a greatest sum."""
        while True:
            entering = self._entering(barred)
            if entering is None:
                return True
            leaving = self._leaving(entering)
            if leaving is None:
                return False
            equation = self.solved[leaving]
            del self.solved[leaving]
            self._turn(equation, entering)

    def total(self):
        """The sum as it is, a fraction."""
        return lowest(self.goal[1], self.goal[0][GOAL])

    def worth(self, unknown):
        """What an unknown is for which an equation is solved, a fraction; all others are 0."""
        sums, right, _ = self.solved[unknown]
        return lowest(right, sums[unknown])

    def cost(self, unknown):
        """What the sum loses with one more of an unknown, a fraction."""
        return lowest(self.goal[0].get(unknown, 0), self.goal[0][GOAL])

    def _entering(self, barred):
        """An unknown with which the sum rises most, or None."""
        sums = self.goal[0]
        least = min([sums[unknown] for unknown in sums if unknown not in barred])
        if least >= 0:
            return None
        return [unknown for unknown in sums if unknown not in barred and sums[unknown] == least][0]

    def _leaving(self, entering):
        """The unknown that is the first to become 0 as the entering one grows, or None."""
        first = None
        for unknown in self.solved:
            if self.solved[unknown][0].get(entering, 0) <= 0:
                continue
            if first is None or self._is_ahead(self.solved[unknown], self.solved[first], entering):
                first = unknown
        return first

    def _is_ahead(self, one, other, entering):
        """Whether an equation lets the entering unknown grow less than another one.

        Where both let it grow as much, the unknowns of the equations as they were taken decide, as if each right side
        were more by a little, and each time by much less: so the same equations never come again.
        """
        many = one[0][entering]
        few = other[0][entering]
        more = one[1] * few - other[1] * many
        for unknown in self.order:
            if more != 0:
                break
            more = one[0].get(unknown, 0) * few - other[0].get(unknown, 0) * many
        return more < 0

    def _turn(self, equation, chosen):
        """Solve an equation for the chosen unknown, and take it out of all others."""
        for unknown in list(self.solved):
            self.solved[unknown] = without(self.solved[unknown], equation, chosen)
        self.goal = without(self.goal, equation, chosen)
        self.solved[chosen] = equation
