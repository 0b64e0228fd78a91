"""Pairs of standings to which two runs with one code lead, and papers that have a worth for each of them."""

from stretchprices.checks import is_between, is_integer, is_tuple


def same_answers(answers):
    """The pairs of an answer and itself."""
    return [(answer, answer) for answer in range(answers)]


def kinder_answers(answers):
    """The pairs of two answers of which the first one is at most the second one."""
    return [(answer, other) for answer in range(answers) for other in range(answer, answers)]


def any_answers(answers):
    """All pairs of two answers."""
    return [(answer, other) for answer in range(answers) for other in range(answers)]


def pair_steps(one, other, choices, pair):
    """What rows do at a pair of standings of two machines, answered by pairs of answers, one for each.

    The answer is a list of (label, ticks in the one and in the other, pair behind), a label (row, answer, answer).
    """
    found = []
    for at, row in enumerate(one.rows):
        moves = one.moves[pair[0]][at]
        other_moves = other.moves[pair[1]][at]
        for answer, second in choices:
            spent, there = moves[answer]
            other_spent, behind = other_moves[second]
            found.append(((row, answer, second), spent, other_spent, (there, behind)))
    return found


def pair_web(one, other, choices, start):
    """A dict from all pairs of standings to which rows lead from the start to their steps, as pair_steps tells them."""
    web = {}
    queue = [start]
    while queue:
        pair = queue.pop()
        if pair not in web:
            web[pair] = pair_steps(one, other, choices, pair)
            queue.extend([step[3] for step in web[pair] if step[3] not in web])
    return web


def weighed(web, weigh):
    """The web of ways in which a step is worth weigh(ticks in the one, ticks in the other)."""
    return {pair: [(label, weigh(spent, other_spent), there) for label, spent, other_spent, there in web[pair]]
            for pair in web}


def lead_web(one, other, choices, start):
    """The web of ways in which a step is worth the ticks in the one less those in the other."""
    return weighed(pair_web(one, other, choices, start), lambda spent, other_spent: spent - other_spent)


def is_number_paper(one, other, choices, start, bound, thing):
    """Whether it gives pairs integers up to the bound, the start one from 0 on, that no step passes."""
    if not isinstance(thing, dict) or not all([is_integer(worth) and worth <= bound for worth in thing.values()]):
        return False
    if thing.get(start, -1) < 0:
        return False
    return is_closed(one, other, choices, thing,
                     lambda worth, spent, other_spent, behind: worth + spent - other_spent <= behind)


def is_closed(one, other, choices, paper, lets):
    """Whether a dict leads from pairs of standings, and from those behind their steps, to worths that are let.

    lets(worth, ticks in the one, ticks in the other, worth behind) tells whether a step is.
    """
    if not all([_is_pair(one, other, pair) for pair in paper]):
        return False
    for pair in paper:
        for _, spent, other_spent, there in pair_steps(one, other, choices, pair):
            if there not in paper or not lets(paper[pair], spent, other_spent, paper[there]):
                return False
    return True


def _is_pair(one, other, thing):
    """Whether it is a pair of a standing of the one machine and one of the other."""
    if not is_tuple(thing, 2):
        return False
    return is_between(thing[0], 0, one.size - 1) and is_between(thing[1], 0, other.size - 1)
