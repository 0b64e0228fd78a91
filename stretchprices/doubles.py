"""Pairs of standings to which runs lead whose codes end alike, and how long alike."""

from stretchprices.machines import standing_runs
from stretchprices.pairs import any_answers, pair_steps
from stretchprices.ways import reach


class Doubles:
    """All pairs of standings to which runs lead.

    runs: a dict from standings to runs that lead there. web: a dict from the pairs to their steps, as pair_steps tells
    them. unlike: the list of the pairs and labels of all steps that take unlike ticks. same: a dict from the pairs to
    which runs with the same code lead, but the first one, to the pair ahead and the label between. lengths: a dict from
    pairs to the greatest number of rows with which codes of runs that lead there can end alike; those that are lacking
    have no greatest one. backs: a dict from pairs to the pair ahead and the label between, on such a longest way.
    """

    def __init__(self, machine):
        self.runs = standing_runs(machine)
        choices = any_answers(machine.answers)
        pairs = [(here, there) for here in self.runs for there in self.runs]
        self.web = {pair: pair_steps(machine, machine, choices, pair) for pair in pairs}
        self.unlike = [(pair, step[0]) for pair in pairs for step in self.web[pair] if step[1] != step[2]]
        self.same = reach(self.web, (0, 0))
        self.lengths, self.backs = _longest(self.web)

    def is_forked(self, pair):
        """Whether runs with the same code lead to the pair."""
        return pair == (0, 0) or pair in self.same

    def is_endless(self, pair):
        """Whether codes of runs that lead to the pair can end alike in as many rows as one likes."""
        return pair not in self.lengths

    def tail(self, pair, many):
        """The pair that is so many rows ahead of this one, and the list of the labels between."""
        labels = []
        here = pair
        for _ in range(many):
            here, label = self.backs[here]
            labels.append(label)
        return here, labels[::-1]


def _longest(web):
    """The rows of the longest ways that lead to spots, for those that have one, and what is ahead on longest ways."""
    waiting = {here: 0 for here in web}
    for here in web:
        for step in web[here]:
            waiting[step[3]] += 1
    lengths = {here: 0 for here in web if waiting[here] == 0}
    backs = {}
    queue = list(lengths)
    settled = {}
    while queue:
        here = queue.pop()
        settled[here] = lengths[here]
        for label, _, _, there in web[here]:
            if lengths[here] + 1 > lengths.get(there, 0):
                lengths[there] = lengths[here] + 1
                backs[there] = (here, label)
            waiting[there] -= 1
            if waiting[there] == 0:
                queue.append(there)
    # All others lie on rounds or behind one, so that another one of them is ahead of each of them.
    for here in web:
        if here not in settled:
            backs.update({there: (here, label) for label, _, _, there in web[here]})
    return settled, backs
