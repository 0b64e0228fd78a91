"""How far prices of a code can go whose measured codes are off by no more than a slack."""

from math import lcm

from stretchprices.mixtures import counted, independent, mixed
from stretchprices.ratios import NOTHING, lowest, minus
from stretchprices.simplex import Tableau


class Slacks:
    """Measures with a slack.

    Each measure that is weighed by more than 0 lets its code cost its fraction and the slack, each one that is weighed
    by less than 0 its fraction less the slack: so what a code can cost is at most what any weights let, with which the
    measured codes have just the stretches of the code. The least of these is its greatest price.
    """

    def __init__(self, width, measures, slack):
        self.parts = [counted(code, width) for code, _ in measures]
        self.chosen = independent(self.parts)
        self.base = [self.parts[number] for number in self.chosen]
        # How each of the codes is mixed of the chosen ones.
        self.mixtures = [mixed(self.base, part) for part in self.parts]
        self.bottom = slack[1]
        for _, measured in measures:
            self.bottom = lcm(self.bottom, measured[1])
        self.tops = [measured[0] * (self.bottom // measured[1]) for _, measured in measures]
        self.top = slack[0] * (self.bottom // slack[1])

    def can_fit(self):
        """Whether there are prices that fit up to the slack."""
        return self._greatest([NOTHING for _ in self.chosen]) is not None

    def ends(self, part):
        """The least and the greatest price of a code with these stretches where prices can fit, or None."""
        mixture = mixed(self.base, part)
        if mixture is None:
            return None
        opposite = self._greatest([minus(NOTHING, worth) for worth in mixture])
        return minus(NOTHING, opposite), self._greatest(mixture)

    def _greatest(self, mixture):
        """The least fraction that weights let what is mixed so of the chosen codes, or None if there is none."""
        worths = {}
        for number, top in enumerate(self.tops):
            worths[("more", number)] = -top - self.top
            worths[("less", number)] = top - self.top
        tableau = Tableau(worths)
        for at, number in enumerate(self.chosen):
            self._take(tableau, at, number, mixture[at])
        if not tableau.raise_goal({}):
            return None
        top, bottom = tableau.total()
        return lowest(-top, bottom * self.bottom)

    def _take(self, tableau, at, number, wanted):
        """Take that the weights give the chosen code of this number as much as is wanted."""
        bottom = wanted[1]
        for mixture in self.mixtures:
            bottom = lcm(bottom, mixture[at][1])
        side = "more" if wanted[0] >= 0 else "less"
        sign = 1 if wanted[0] >= 0 else -1
        sums = {}
        for other, mixture in enumerate(self.mixtures):
            top, under = mixture[at]
            if top != 0:
                sums[("more", other)] = sign * top * (bottom // under)
                sums[("less", other)] = -sign * top * (bottom // under)
        tableau.take(sums, sign * wanted[0] * (bottom // wanted[1]), (side, number))
