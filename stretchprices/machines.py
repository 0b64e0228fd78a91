"""Machines, and the runs that lead them."""

from stretchprices.checks import is_answers, is_between, is_rows, is_run, is_tuple
from stretchprices.errors import BadMachine, NoRun, NoStanding, OtherRows
from stretchprices.walks import earliest


class Machine:
    """Standings, and for each row and answer the ticks that it takes there and the standing behind."""

    def __init__(self, rows, answers, moves):
        if not is_rows(rows):
            raise BadMachine("rows")
        if not is_answers(answers):
            raise BadMachine("answers")
        if not _are_moves(moves, rows, answers):
            raise BadMachine("moves")
        self.rows = rows
        self.answers = answers
        self.moves = moves
        self.size = len(moves)

    def __eq__(self, other):
        return (isinstance(other, Machine) and self.rows == other.rows
                and self.answers == other.answers and self.moves == other.moves)


def _are_moves(moves, rows, answers):
    if not isinstance(moves, tuple) or not 1 <= len(moves) <= 12:
        return False
    return all([_is_item(item, len(rows), answers, len(moves)) for item in moves])


def _is_item(item, rows, answers, size):
    return is_tuple(item, rows) and all([_are_pairs(pairs, answers, size) for pairs in item])


def _are_pairs(pairs, answers, size):
    return is_tuple(pairs, answers) and all([_is_move(pair, size) for pair in pairs])


def _is_move(pair, size):
    return is_tuple(pair, 2) and is_between(pair[0], 1, 99) and is_between(pair[1], 0, size - 1)


def grown(rows, answers, moves):
    """The machine of parts that are known to be right, with any number of standings."""
    # Machine itself refuses more than 12 standings, which a machine that is returned may have.
    machine = Machine("a", 1, ((((1, 0),),),))
    machine.rows = rows
    machine.answers = answers
    machine.moves = moves
    machine.size = len(moves)
    return machine


def walked(machine, start, run):
    """The ticks that a run takes from a standing on, and the standing to which it leads."""
    code, told = run
    total = 0
    here = start
    for row, answer in zip(code, told):
        spent, here = machine.moves[here][machine.rows.index(row)][answer]
        total += spent
    return total, here


def check_run(machine, run):
    """Raise the error for what is no run of the machine."""
    if not is_run(run, machine.rows, machine.answers):
        raise NoRun()


def check_standing(machine, thing):
    """Raise the error for what is no standing of the machine."""
    if not is_between(thing, 0, machine.size - 1):
        raise NoStanding()


def check_like(one, other):
    """Raise the error for two machines with unlike rows or answers."""
    if one.rows != other.rows or one.answers != other.answers:
        raise OtherRows()


def ticks(machine, run):
    """The ticks that a run takes."""
    check_run(machine, run)
    return walked(machine, 0, run)[0]


def standing(machine, run):
    """The standing to which a run leads."""
    check_run(machine, run)
    return walked(machine, 0, run)[1]


def ticks_from(machine, standing, run):
    """The ticks that a run takes that begins at the standing."""
    check_standing(machine, standing)
    check_run(machine, run)
    return walked(machine, standing, run)[0]


def standing_from(machine, standing, run):
    """The standing to which a run leads that begins at the standing."""
    check_standing(machine, standing)
    check_run(machine, run)
    return walked(machine, standing, run)[1]


def alike(one, other):
    """Whether each run takes as many ticks in the one machine as in the other."""
    return parting(one, other) is None


def parting(one, other):
    """The earliest run that takes unlike ticks in two machines, or None."""
    check_like(one, other)
    runs = earliest((0, 0), lambda pair: _pair_steps(one, other, pair))
    best = None
    for pair in runs:
        code, told = runs[pair]
        for row, answer in _unlike_steps(one, other, pair):
            ranked = (len(code), code + row, told + (answer,))
            if best is None or ranked < best:
                best = ranked
    if best is None:
        return None
    return best[1:]


def _pair_steps(one, other, pair):
    """The steps from a pair of standings of two machines as triples (row, answer, pair behind)."""
    found = []
    for at, row in enumerate(one.rows):
        for answer in range(one.answers):
            there = (one.moves[pair[0]][at][answer][1], other.moves[pair[1]][at][answer][1])
            found.append((row, answer, there))
    return found


def _unlike_steps(one, other, pair):
    """The pairs (row, answer) that take unlike ticks at a pair of standings of two machines."""
    found = []
    for at, row in enumerate(one.rows):
        for answer in range(one.answers):
            if one.moves[pair[0]][at][answer][0] != other.moves[pair[1]][at][answer][0]:
                found.append((row, answer))
    return found


def smallest(machine):
    """The machine with as few standings as possible that is alike to this one."""
    order = list(standing_runs(machine))
    kinds = _kinds(machine, order)
    # The standings come in the order of their earliest runs, so the first one of a kind gives the kind its number.
    first = {}
    for here in order:
        first.setdefault(kinds[here], here)
    number = {kind: at for at, kind in enumerate(first)}
    names = {here: number[kinds[here]] for here in order}
    moves = tuple([_renamed(machine.moves[first[kind]], names) for kind in first])
    return grown(machine.rows, machine.answers, moves)


def standing_runs(machine):
    """A dict from the standings to which runs lead to the earliest runs that lead there, in their order."""
    return earliest(0, lambda here: steps_at(machine, here))


def steps_at(machine, here):
    """The steps from a standing as triples (row, answer, standing behind)."""
    found = []
    for at, row in enumerate(machine.rows):
        for answer in range(machine.answers):
            found.append((row, answer, machine.moves[here][at][answer][1]))
    return found


def _kinds(machine, order):
    """A dict from standings to numbers that are the same just for those from which all runs take the same ticks."""
    kinds = {here: 0 for here in order}
    many = 1
    while True:
        marks = {}
        finer = {}
        for here in order:
            mark = (kinds[here], _renamed(machine.moves[here], kinds))
            finer[here] = marks.setdefault(mark, len(marks))
        if len(marks) == many:
            return kinds
        kinds = finer
        many = len(marks)


def _renamed(item, names):
    """The item of a standing with other names in the place of the standings behind."""
    return tuple([tuple([(spent, names[there]) for spent, there in pairs]) for pairs in item])
