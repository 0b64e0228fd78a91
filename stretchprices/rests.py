"""The rests that prices leave of runs, and long runs."""

from stretchprices.checks import is_integer, is_run, is_tuple
from stretchprices.errors import NoLong, OtherRows
from stretchprices.machines import check_run, walked
from stretchprices.ratios import NOTHING, lowest, minus
from stretchprices.stretches import charged, first_tail, price, shared_bottom


def rest(machine, prices, run):
    """The ticks of a run less the price of its code."""
    check_same_rows(machine, prices)
    check_run(machine, run)
    return minus((walked(machine, 0, run)[0], 1), price(prices, run[0]))


def rests_of(machine, prices, run):
    """The list of the rests of all beginnings of what is known to be a run, the empty one first."""
    tops, bottom = shared_bottom(prices)
    here = 0
    tail = first_tail(prices.width)
    total = 0
    found = [NOTHING]
    for row, answer in zip(run[0], run[1]):
        spent, here = walked(machine, here, (row, (answer,)))
        paid, tail = charged(tops, prices.width, tail, row)
        total += spent * bottom - paid
        found.append(lowest(total, bottom))
    return found


def check_same_rows(machine, prices):
    """Raise the error for a machine and prices with unlike rows."""
    if machine.rows != prices.rows:
        raise OtherRows()


def long_ticks(machine, long):
    """The ticks of a long run."""
    check_long(long, machine.rows, machine.answers)
    return _summed(long, 0, lambda here, run: walked(machine, here, run))


def long_price(prices, long):
    """The price of the code of a long run."""
    # Prices know no answers: those of any machine are let.
    check_long(long, prices.rows, 3)
    width = prices.width
    tops, bottom = shared_bottom(prices)
    return lowest(_summed(long, first_tail(width), lambda tail, run: charged(tops, width, tail, run[0])), bottom)


def check_long(thing, rows, answers):
    """Raise the error for what is no long run with these rows and answers."""
    if not isinstance(thing, tuple) or not all([_is_turn(turn, rows, answers) for turn in thing]):
        raise NoLong()


def _is_turn(thing, rows, answers):
    return is_tuple(thing, 2) and is_run(thing[0], rows, answers) and is_integer(thing[1]) and thing[1] >= 0


def _summed(long, here, once):
    """What a long run comes to from here; once(here, run) is the amount of a run and where it leads."""
    total = 0
    for run, times in long:
        amount, here = _repeated(run, times, here, once)
        total += amount
    return total


def _repeated(run, times, here, once):
    """What a run comes to that is done so many times from here, and where that leads."""
    begun = {}
    total = 0
    done = 0
    while done < times and here not in begun:
        begun[here] = (done, total)
        amount, here = once(here, run)
        total += amount
        done += 1
    if done < times:
        # It is where it was before: all further times go the same circle.
        first, ahead = begun[here]
        circles = (times - done) // (done - first)
        total += circles * (total - ahead)
        done += circles * (done - first)
    for _ in range(times - done):
        amount, here = once(here, run)
        total += amount
    return total, here
