"""Meters, what they read, and which of them tell which."""

from itertools import combinations
from math import lcm

from stretchprices.checks import is_between, is_tuple
from stretchprices.equations import solve
from stretchprices.errors import NoMeter, NoMeters, NoWeights
from stretchprices.machines import check_like, check_run
from stretchprices.pairs import pair_web, same_answers
from stretchprices.ratios import NOTHING, is_fraction, lowest
from stretchprices.rounds import are_lots, pieces_of, round_equations, two_lots
from stretchprices.ways import summit
from stretchprices.webs import inner_steps, places, steps_from


def meter_ticks(machine):
    """The meter of the ticks."""
    return tuple([tuple([tuple([move[0] for move in moves]) for moves in item]) for item in machine.moves])


def reading(machine, meter, run):
    """What the meter goes on in a run."""
    check_meter(machine, meter)
    check_run(machine, run)
    total = 0
    here = 0
    for row, answer in zip(run[0], run[1]):
        at = machine.rows.index(row)
        total += meter[here][at][answer]
        here = machine.moves[here][at][answer][1]
    return total


def meter_of(one, other):
    """The meter of the one machine that counts the other one's ticks, or None if no meter does."""
    check_like(one, other)
    behind = {}
    for here, there in pair_web(one, other, same_answers(one.answers), (0, 0)):
        if behind.setdefault(here, there) != there:
            return None
    ticks = meter_ticks(other)
    nothing = tuple([(0,) * one.answers for _ in one.rows])
    return tuple([ticks[behind[here]] if here in behind else nothing for here in range(one.size)])


def mixture(machine, meter, meters):
    """Fractions of the meters that tell the meter up to a bound, as a tuple, or None."""
    check_meter(machine, meter)
    _check_meters(machine, meters)
    return _mixed(machine, meter, meters)


def meter_lots(machine, meter, meters):
    """Two lots in which each of the meters reads the same and the meter does not, or None."""
    check_meter(machine, meter)
    _check_meters(machine, meters)
    found = pieces_of(machine, 1)
    _, reason = solve(round_equations(found, _teller(machine, meter, meters)))
    if reason is None:
        return None
    return two_lots(found, reason)


def is_meter_lots(machine, meter, meters, thing):
    """Whether it is a pair of two lots in which each of the meters reads the same and the meter does not."""
    check_meter(machine, meter)
    _check_meters(machine, meters)
    return are_lots(thing, inner_steps(machine, 1), _teller(machine, meter, meters))


def spread(machine, meter, meters, weights):
    """The least and the greatest of all readings of the meter less those of the meters times the weights, or None."""
    check_meter(machine, meter)
    _check_meters(machine, meters)
    _check_weights(meters, weights)
    bottom = 1
    for weight in weights:
        bottom = lcm(bottom, weight[1])
    tops = [top * (bottom // under) for top, under in weights]
    tell = _teller(machine, meter, meters)
    ends = []
    for sign in (-1, 1):
        found = summit(_left_web(machine, tell, tops, bottom, sign), (0, ""))
        if found is None:
            return None
        ends.append(lowest(sign * found[0], bottom))
    return ends[0], ends[1]


def least_meters(machine, meters):
    """The ascending list of all lots of numbers of meters that are enough and can lose none."""
    _check_meters(machine, meters)
    enough = [lot for many in range(len(meters) + 1) for lot in combinations(range(len(meters)), many)
              if _is_enough(machine, meters, lot)]
    # All that can lose none have as many numbers.
    return [lot for lot in enough if len(lot) == len(enough[0])]


def _is_enough(machine, meters, lot):
    """Whether each of the meters has a mixture of those with these numbers."""
    few = [meters[number] for number in lot]
    return all([_mixed(machine, meter, few) is not None for meter in meters])


def _mixed(machine, meter, meters):
    solution, _ = solve(round_equations(pieces_of(machine, 1), _teller(machine, meter, meters)))
    if solution is None:
        return None
    return tuple([solution.get(number, NOTHING) for number in range(len(meters))])


def _teller(machine, meter, meters):
    """A function that tells of a step a dict from the meters' numbers to what they go on, and what the meter does."""
    def tell(step):
        (place, row, answer), _, _, _ = step
        at = machine.rows.index(row)
        here = place[0]
        return {number: each[here][at][answer] for number, each in enumerate(meters)}, meter[here][at][answer]
    return tell


def _left_web(machine, tell, tops, bottom, sign):
    """The web in which steps are worth the meter less the tops' parts of the meters, times the sign and the bottom."""
    web = {}
    for place in places(machine, 1):
        links = []
        for step in steps_from(machine, 1, place):
            few, amount = tell(step)
            taken = sum([top * few[number] for number, top in enumerate(tops)])
            links.append((step[0][1:], sign * (amount * bottom - taken), step[3]))
        web[place] = links
    return web


def _is_meter(machine, thing):
    return is_tuple(thing, machine.size) and all([_is_item(machine, item) for item in thing])


def _is_item(machine, item):
    if not is_tuple(item, len(machine.rows)):
        return False
    return all([is_tuple(turns, machine.answers) and all([is_between(turn, -99, 99) for turn in turns])
                for turns in item])


def check_meter(machine, thing):
    """Raise the error for what is no meter of the machine."""
    if not _is_meter(machine, thing):
        raise NoMeter()


def _check_meters(machine, thing):
    """Raise the error for what is no list or tuple of 0 to 4 meters of the machine."""
    if not isinstance(thing, (list, tuple)) or len(thing) > 4 or not all([_is_meter(machine, each) for each in thing]):
        raise NoMeters()


def _check_weights(meters, thing):
    """Raise the error for what is no tuple of fractions, one for each of the meters."""
    if not is_tuple(thing, len(meters)) or not all([is_fraction(weight) for weight in thing]):
        raise NoWeights()
