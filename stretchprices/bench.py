"""The bench, on which a code is put together."""

from stretchprices.checks import is_between, is_code
from stretchprices.errors import NoAnswer, NoPlace, NoRow, NothingDone
from stretchprices.machines import walked
from stretchprices.ratios import minus
from stretchprices.rests import check_same_rows, rests_of
from stretchprices.stretches import cost


class Bench:
    """A run that is put together for a machine and prices."""

    def __init__(self, machine, prices):
        check_same_rows(machine, prices)
        self._machine = machine
        self._prices = prices
        # Pairs of a row and its answer.
        self._steps = []
        # For each change what takes it back: its place, how many steps to take out there, and those to put in.
        self._changes = []

    def put(self, row, answer):
        """Put a row and its answer behind."""
        self._check_row(row)
        self._check_answer(answer)
        self._change(len(self._steps), 0, [(row, answer)])

    def insert(self, place, row, answer):
        """Put a row and its answer ahead of the row at the place."""
        self._check_place(place, len(self._steps))
        self._check_row(row)
        self._check_answer(answer)
        self._change(place, 0, [(row, answer)])

    def strike(self, place):
        """Take out the row at the place."""
        self._check_place(place, len(self._steps) - 1)
        self._change(place, 1, [])

    def turn(self, place, answer):
        """Give the row at the place another answer."""
        self._check_place(place, len(self._steps) - 1)
        self._check_answer(answer)
        self._change(place, 1, [(self._steps[place][0], answer)])

    def run(self):
        """The run."""
        return "".join([row for row, _ in self._steps]), tuple([answer for _, answer in self._steps])

    def ticks(self):
        """The ticks of the run."""
        return walked(self._machine, 0, self.run())[0]

    def price(self):
        """The price of the run's code."""
        return cost(self._prices, self.run()[0])

    def rest(self):
        """The rest of the run."""
        return minus((self.ticks(), 1), self.price())

    def rests(self):
        """The list of the rests of all beginnings of the run, the empty one first."""
        return rests_of(self._machine, self._prices, self.run())

    def back(self):
        """Take back the last change that is not taken back."""
        if not self._changes:
            raise NothingDone()
        place, many, steps = self._changes.pop()
        self._steps[place:place + many] = steps

    def depth(self):
        """How many changes can be taken back."""
        return len(self._changes)

    def lowest(self):
        """The number of the first row whose striking would leave the least ticks, or None if there is no row."""
        return _least_struck(self._machine, self._steps)

    def trying(self, action):
        """What action(bench) returns; everything on the bench is put back then."""
        steps = list(self._steps)
        changes = list(self._changes)
        try:
            return action(self)
        finally:
            self._steps, self._changes = steps, changes

    def copy(self):
        """Another bench that goes on apart, and can go back likewise."""
        other = Bench(self._machine, self._prices)
        other._steps = list(self._steps)
        other._changes = list(self._changes)
        return other

    def _change(self, place, many, steps):
        """Put the steps at the place of so many that stand there."""
        self._changes.append((place, len(steps), self._steps[place:place + many]))
        self._steps[place:place + many] = steps

    def _check_place(self, thing, most):
        if not is_between(thing, 0, most):
            raise NoPlace()

    def _check_row(self, thing):
        if not is_code(thing, self._machine.rows) or len(thing) != 1:
            raise NoRow()

    def _check_answer(self, thing):
        if not is_between(thing, 0, self._machine.answers - 1):
            raise NoAnswer()


def _least_struck(machine, steps):
    """The number of the first step without which the steps take the least ticks, or None if there is no step."""
    ahead = []
    total = 0
    here = 0
    for step in steps:
        ahead.append((total, here))
        spent, here = walked(machine, here, _step_run(step))
        total += spent
    least = None
    found = None
    # What the steps behind take from each standing on.
    behind = [0 for _ in range(machine.size)]
    for at in reversed(range(len(steps))):
        spent, here = ahead[at]
        if least is None or spent + behind[here] <= least:
            least = spent + behind[here]
            found = at
        moves = [walked(machine, spot, _step_run(steps[at])) for spot in range(machine.size)]
        behind = [spent + behind[there] for spent, there in moves]
    return found


def _step_run(step):
    """The run of one step."""
    row, answer = step
    return row, (answer,)
