"""Ways in webs: the greatest sums of their links, rounds by which sums rise without end, and the runs that go them.

A web is a dict from all spots to which ways lead to the lists of their links (label, worth, spot behind). The label of
a link is its row and one or two answers, those of two runs with the same code.
"""


def climb(web, start):
    """The greatest sums of the ways from the start: a triple (levels, backs, spot).

    levels is a dict from all spots to the greatest sums of the ways that lead there, and the spot is None; if there are
    no greatest sums, levels is None, and the spot is on a round that rises. Backs lead back on such ways, or on the
    round: a dict from spots to pairs of the spot ahead and the label between.
    """
    levels = {start: 0}
    backs = {}
    layer = [start]
    while layer:
        raised = {}
        for here in layer:
            for label, worth, there in web[here]:
                level = levels[here] + worth
                if there not in levels or level > levels[there]:
                    levels[there] = level
                    backs[there] = (here, label)
                    raised[there] = True
        layer = list(raised)
        # Backs that go round do so just where the links between rise.
        spot = _spot_on_round(backs, layer)
        if spot is not None:
            return None, backs, spot
    return levels, backs, None


def _spot_on_round(backs, layer):
    """A spot to which the backs from the layer return, or None."""
    seen = {}
    for first in layer:
        here = first
        while here in backs and here not in seen:
            seen[here] = first
            here, _ = backs[here]
        if seen.get(here) == first:
            return here
    return None


def reach(web, start):
    """A dict from all spots but the start to which ways lead, to the spot ahead on a shortest way and the label."""
    backs = {}
    layer = [start]
    while layer:
        fresh = []
        for here in layer:
            for link in web[here]:
                there = link[-1]
                if there != start and there not in backs:
                    backs[there] = (here, link[0])
                    fresh.append(there)
        layer = fresh
    return backs


def trail(backs, end):
    """The list of the labels on the way by backs to the end."""
    labels = []
    here = end
    while here in backs:
        here, label = backs[here]
        labels.append(label)
    return labels[::-1]


def around(backs, spot):
    """The list of the labels on the round by backs from a spot to itself."""
    here, label = backs[spot]
    labels = [label]
    while here != spot:
        here, label = backs[here]
        labels.append(label)
    return labels[::-1]


def summit(web, start):
    """The greatest sum of all ways from the start and the labels of a way that has it, or None if there is none."""
    levels, backs, _ = climb(web, start)
    if levels is None:
        return None
    number = max(levels.values())
    ends = [spot for spot in levels if levels[spot] == number]
    return number, trail(backs, ends[0])


def rising(web, start):
    """The labels of a way and of a round behind it that rises, as a pair of lists, or None if no round rises."""
    _, backs, spot = climb(web, start)
    if spot is None:
        return None
    return trail(reach(web, start), spot), around(backs, spot)


def run_of(labels):
    """The run with the rows and the first answers of the labels."""
    return "".join([label[0] for label in labels]), tuple([label[1] for label in labels])


def two_runs(labels):
    """The pair of the runs with the rows and the first, or the second, answers of the labels."""
    code = "".join([label[0] for label in labels])
    return (code, tuple([label[1] for label in labels])), (code, tuple([label[2] for label in labels]))
