"""Widths whose prices leave nothing over, and what shows that there are none."""

from stretchprices.checks import is_between, is_integer, is_run, is_tuple
from stretchprices.doubles import Doubles
from stretchprices.errors import NoWidth
from stretchprices.machines import walked
from stretchprices.stretches import Prices, stretch_at
from stretchprices.ways import run_of, trail, two_runs
from stretchprices.webs import places, steps_from


def is_exact_width(machine, width):
    """Whether there are prices of this width, any integer from 1 on, by which all runs have the rest 0."""
    if not is_integer(width):
        return False
    least = least_exact(machine)
    return least is not None and least <= width


def exact(machine, width):
    """The prices with which all rests are 0, or None."""
    table = {}
    for place in places(machine, width):
        for _, spent, stretch, _ in steps_from(machine, width, place):
            if table.setdefault(stretch, (spent, 1)) != (spent, 1):
                return None
    return Prices(machine.rows, width, table)


def unlike(machine, width):
    """Two runs whose last rows end the same stretch and take unlike ticks, or None."""
    _check_wide(width)
    doubles = Doubles(machine)
    found = _forked(doubles)
    if found is not None:
        return found
    for pair, label in doubles.unlike:
        if doubles.is_endless(pair) or doubles.lengths[pair] >= width - 1:
            return _ended_alike(doubles, pair, label, width)
    return None


def _ended_alike(doubles, pair, label, width):
    """Two runs that end with the same so many rows, the last one that of the label at the pair."""
    (first, second), labels = doubles.tail(pair, width - 1)
    one, other = two_runs(labels + [label])
    return _joined(doubles.runs[first], one), _joined(doubles.runs[second], other)


def _joined(one, other):
    """Two runs, one behind the other, as one."""
    return one[0] + other[0], one[1] + other[1]


def is_unlike(machine, width, thing):
    """Whether it is a pair of runs whose last rows end the same stretch and take unlike ticks."""
    _check_wide(width)
    if not _are_runs(machine, thing, 2) or thing[0][0] == "" or thing[1][0] == "":
        return False
    ended, other_ended = [stretch_at(code, len(code), width) for code, _ in thing]
    return ended == other_ended and _last_ticks(machine, 0, thing[0]) != _last_ticks(machine, 0, thing[1])


def least_exact(machine):
    """The least exact width, or None."""
    doubles = Doubles(machine)
    least = 1
    for pair, _ in doubles.unlike:
        if doubles.is_forked(pair) or doubles.is_endless(pair):
            return None
        least = max(least, doubles.lengths[pair] + 2)
    return least


def ring(machine):
    """Two runs, a round behind each and an end behind each, as told of rings, or None."""
    doubles = Doubles(machine)
    for pair, label in doubles.unlike:
        if doubles.is_endless(pair):
            return _ring_to(doubles, pair, label)
    return None


def _ring_to(doubles, pair, label):
    """The ring whose last rows are that of the label at the pair."""
    number = {}
    labels = []
    here = pair
    while here not in number:
        number[here] = len(labels)
        here, between = doubles.backs[here]
        labels.append(between)
    first, second = here
    circle, other_circle = two_runs(labels[number[here]:][::-1])
    end, last = two_runs(labels[:number[here]][::-1] + [label])
    return doubles.runs[first], doubles.runs[second], circle, other_circle, end, last


def fork(machine):
    """Two runs with the same code whose last rows take unlike ticks, or None."""
    return _forked(Doubles(machine))


def _forked(doubles):
    for pair, label in doubles.unlike:
        if doubles.is_forked(pair):
            return two_runs(trail(doubles.same, pair) + [label])
    return None


def is_ring(machine, thing):
    """Whether it is a ring."""
    if not _are_runs(machine, thing, 6):
        return False
    one, other, circle, second, end, last = thing
    here = walked(machine, 0, one)[1]
    there = walked(machine, 0, other)[1]
    if not _are_twins(circle, second) or not _are_twins(end, last):
        return False
    if walked(machine, here, circle)[1] != here or walked(machine, there, second)[1] != there:
        return False
    return _last_ticks(machine, here, end) != _last_ticks(machine, there, last)


def is_fork(machine, thing):
    """Whether it is a fork."""
    if not _are_runs(machine, thing, 2) or not _are_twins(thing[0], thing[1]):
        return False
    return _last_ticks(machine, 0, thing[0]) != _last_ticks(machine, 0, thing[1])


def _check_wide(width):
    """Raise the error for what is no width from 1 to 10000."""
    if not is_between(width, 1, 10000):
        raise NoWidth()


def _are_runs(machine, thing, many):
    """Whether it is a tuple of so many runs."""
    return is_tuple(thing, many) and all([is_run(run, machine.rows, machine.answers) for run in thing])


def _are_twins(one, other):
    """Whether two runs have the same code, not the empty one."""
    return one[0] == other[0] and one[0] != ""


def _last_ticks(machine, start, run):
    """The ticks of the last row of a run that begins at the standing."""
    code, told = run
    _, here = walked(machine, start, (code[:-1], told[:-1]))
    return walked(machine, here, (code[-1:], told[-1:]))[0]
