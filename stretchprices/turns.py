"""Turns: how far standings tell what a meter reads, and the rests of its readings."""

from math import gcd

from stretchprices.checks import is_between
from stretchprices.errors import NoNumber
from stretchprices.machines import standing_runs, steps_at
from stretchprices.meters import check_meter, reading


def turns(machine, meter):
    """The greatest number for which standings tell the rests of readings, or 0 if they tell the readings."""
    check_meter(machine, meter)
    return _common(Readings(machine, meter))


def rests(machine, meter, m):
    """The dict from the standings to which runs lead to the rests of the readings, divided by m, or None."""
    check_meter(machine, meter)
    _check_divisor(m)
    told = Readings(machine, meter)
    if _common(told) % m != 0:
        return None
    return {here: told.first[here] % m for here in told.first}


def parting_rests(machine, meter, m):
    """Two runs that lead to one standing and whose readings, divided by m, have unlike rests, or None."""
    check_meter(machine, meter)
    _check_divisor(m)
    told = Readings(machine, meter)
    for off, here, label, there in told.offs:
        if off % m != 0:
            code, answers = told.runs[here]
            row, answer = label
            return (code + row, answers + (answer,)), told.runs[there]
    return None


class Readings:
    """What a meter reads behind the runs to standings.

    runs: a dict from the standings to which runs lead to runs that lead there. first: a dict from them to the readings
    of these runs. offs: for each step between them (off, here, (row, answer), there), where off is how much more the
    meter reads behind the run to here and this step than behind the run to there.
    """

    def __init__(self, machine, meter):
        self.runs = standing_runs(machine)
        self.first = {here: reading(machine, meter, self.runs[here]) for here in self.runs}
        self.offs = []
        for here in self.runs:
            for row, answer, there in steps_at(machine, here):
                behind = self.first[here] + meter[here][machine.rows.index(row)][answer]
                self.offs.append((behind - self.first[there], here, (row, answer), there))


def _common(told):
    """What divides all differences of readings of runs to one standing: each is a sum of the steps' ones."""
    common = 0
    for off, _, _, _ in told.offs:
        common = gcd(common, off)
    return common


def _check_divisor(thing):
    """Raise the error for what is no integer from 1 to 10 ** 30."""
    if not is_between(thing, 1, 10 ** 30):
        raise NoNumber()
