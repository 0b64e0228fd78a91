"""Odd turns: whether kinder answers can end later."""

from stretchprices.checks import check_integer
from stretchprices.pairs import is_number_paper, kinder_answers, lead_web
from stretchprices.ways import rising, summit, two_runs


def odd(machine):
    """Two runs with as few rows as possible, the first one kinder than the second one and with more ticks, or None."""
    web = _web(machine)
    levels = {(0, 0): 0}
    layer = {(0, 0): 0}
    backs = []
    while layer:
        fresh, ahead = _raised(web, levels, layer)
        backs.append(ahead)
        ends = [pair for pair in fresh if fresh[pair] > 0]
        if ends:
            return two_runs(_labels(backs, ends[0]))
        levels.update(fresh)
        layer = fresh
    return None


def _raised(web, levels, layer):
    """What one row more raises: the dict of the new levels of the pairs, and that of what is ahead of them."""
    fresh = {}
    ahead = {}
    for here in layer:
        for label, worth, there in web[here]:
            level = layer[here] + worth
            known = fresh.get(there, levels.get(there))
            if known is None or level > known:
                fresh[there] = level
                ahead[there] = (here, label)
    return fresh, ahead


def _labels(backs, end):
    """The labels on the way to the end that takes one link of each of the dicts."""
    labels = []
    here = end
    for ahead in backs[::-1]:
        here, label = ahead[here]
        labels.append(label)
    return labels[::-1]


def worst_odd(machine):
    """By how much a kinder run takes more ticks at most, and two such runs, or a round by which it rises for ever."""
    web = _web(machine)
    found = rising(web, (0, 0))
    if found is not None:
        return "round", two_runs(found[0]), two_runs(found[1])
    number, labels = summit(web, (0, 0))
    return "most", number, two_runs(labels)


def is_even_paper(machine, bound, thing):
    """Whether it is a paper by which kinder runs take at most as many ticks more as the bound tells."""
    check_integer(bound)
    return is_number_paper(machine, machine, kinder_answers(machine.answers), (0, 0), bound, thing)


def _web(machine):
    return lead_web(machine, machine, kinder_answers(machine.answers), (0, 0))
