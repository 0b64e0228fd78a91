"""Programs: lots of codes told by blocks, branches and loops, their least and greatest times and prices."""

from stretchprices.bounds import fewest, most
from stretchprices.charts import program_sums
from stretchprices.checks import is_between, is_code, is_tuple
from stretchprices.doing import places_done
from stretchprices.errors import NoProgram
from stretchprices.machines import smallest
from stretchprices.ratios import lowest, plus
from stretchprices.rests import check_same_rows
from stretchprices.stretches import check_code, check_rows, first_tail, shared_bottom, tail_behind

MOST_STATEMENTS = 6
MOST_DEPTH = 4
MOST_TIMES = 10 ** 30


def extremes(machine, program):
    """The least and the greatest ticks of runs with codes that the program does."""
    _check_program(machine.rows, program)
    # Fewer standings make charts smaller, and the ticks of all runs are the same.
    few = smallest(machine)
    return -_greatest_ticks(few, program, -1), _greatest_ticks(few, program, 1)


def price_extremes(prices, program):
    """The least and the greatest price of codes that the program does."""
    _check_program(prices.rows, program)
    tops, bottom = shared_bottom(prices)
    start = first_tail(prices.width)
    ends = [sign * program_sums(program, _tail_charts(prices, tops, sign), start) for sign in (-1, 1)]
    return lowest(ends[0], bottom), lowest(ends[1], bottom)


def told_extremes(machine, prices, program):
    """Two fractions between which prices and rests tell that the ticks of the program's runs lie, or None."""
    check_same_rows(machine, prices)
    _check_program(machine.rows, program)
    below = fewest(machine, prices)
    above = most(machine, prices)
    if below is None or above is None:
        return None
    least, greatest = price_extremes(prices, program)
    return plus(least, below[0]), plus(greatest, above[0])


def does(rows, program, code):
    """Whether a program does a code."""
    check_rows(rows)
    _check_program(rows, program)
    check_code(code, rows)
    return (places_done(program, code)[0] >> len(code)) & 1 == 1


def _greatest_ticks(machine, program, sign):
    """The greatest ticks times the sign of runs with codes that the program does."""
    charts = {}
    for at, row in enumerate(machine.rows):
        charts[row] = {here: _best_moves(item[at], sign) for here, item in enumerate(machine.moves)}
    return program_sums(program, charts, 0)


def _best_moves(moves, sign):
    """A dict from the standings to which a row leads to the greatest ticks times the sign that it takes to there."""
    found = {}
    for spent, there in moves:
        found[there] = max(sign * spent, found.get(there, sign * spent))
    return found


def _tail_charts(prices, tops, sign):
    """For each row the chart from tails to tails of its tops times the sign."""
    charts = {row: {} for row in prices.rows}
    for stretch in tops:
        charts[stretch[-1]][stretch[:-1]] = {tail_behind(stretch, prices.width): sign * tops[stretch]}
    return charts


def _check_program(rows, thing):
    """Raise the error for what is no program over the rows."""
    if not _is_block(thing, rows, 1):
        raise NoProgram()


def _is_block(thing, rows, depth):
    """Whether it is a block over the rows that stands so deep."""
    if not isinstance(thing, tuple) or len(thing) > MOST_STATEMENTS or depth > MOST_DEPTH:
        return False
    return all([_is_statement(statement, rows, depth) for statement in thing])


def _is_statement(thing, rows, depth):
    """Whether it is a statement over the rows in a block that stands so deep."""
    if not isinstance(thing, tuple) or len(thing) == 0 or not isinstance(thing[0], str):
        return False
    if thing[0] == "rows":
        return len(thing) == 2 and is_code(thing[1], rows) and len(thing[1]) <= 12
    if thing[0] == "either":
        return len(thing) == 2 and _are_blocks(thing[1], rows, depth + 1)
    if thing[0] == "times":
        return len(thing) == 4 and _are_turns(thing[1], thing[2]) and _is_block(thing[3], rows, depth + 1)
    return False


def _are_blocks(thing, rows, depth):
    """Whether it is a tuple of 1 to 4 blocks that stand so deep."""
    if not isinstance(thing, tuple) or not 1 <= len(thing) <= 4:
        return False
    return all([_is_block(block, rows, depth) for block in thing])


def _are_turns(fewest_turns, most_turns):
    """Whether they are the ends of a range of times."""
    return is_between(fewest_turns, 0, MOST_TIMES) and is_between(most_turns, fewest_turns, MOST_TIMES)
