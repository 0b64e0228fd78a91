"""What the tests share: examples, drawn machines, odd values, and slow ways to work things out."""

import itertools
import random
from fractions import Fraction

from stretchprices import errors
from stretchprices.machines import Machine
from stretchprices.rigs import Rig
from stretchprices.stretches import Prices, all_stretches

M = Machine("ab", 1, ((((1, 0),), ((1, 1),)), (((2, 0),), ((1, 1),))))
N = Machine("ab", 1, ((((1, 0),), ((1, 0),)),))
X = Machine("a", 2, ((((1, 1), (2, 0)),), (((9, 0), (1, 0)),)))
# For the width 3 the one has 300 places, the other 301.
ENOUGH = Rig("abcd", 2, (20,) * 4, (("kept", (0, 1, None, 3), 1, 1), ("guess", "b", 2, 1), ("guess", "cd", 2, 1)))
MANY = Rig("abcd", 2, (20,) * 4, (("buffer", "abcd", 3, 1), ("guess", "abcd", 2, 2), ("guess", "bc", 2, 1)))


def deep(kind, inside=1, times=39):
    """A thing of tuples, lists or dicts that stand one inside another."""
    for _ in range(times):
        inside = {"tuple": (inside,), "list": [inside], "dict": {"a": inside}}[kind]
    return inside


def drawn_prices(seed, rows="ab", width=2, bottoms=(1, 2, 3, 7)):
    """Prices that are drawn, of all signs."""
    draw = random.Random(seed)
    table = {name: pair(Fraction(draw.randint(-9, 9), draw.choice(bottoms))) for name in all_stretches(rows, width)}
    return Prices(rows, width, table)


def pair(value):
    """A fraction as the program writes it."""
    value = Fraction(value)
    return value.numerator, value.denominator


def slow_stretches(code, width):
    """The stretches of a code, by the words of the document."""
    ends = [code[:end] for end in range(1, len(code) + 1)]
    return [head[-width:] if len(head) >= width else "^" + head for head in ends]


def slow_price(prices, code):
    """The price of a code as a Fraction."""
    return sum((Fraction(*prices.table[name]) for name in slow_stretches(code, prices.width)), Fraction(0))


def odd_things():
    """Things of many kinds that are no number, string, tuple or dict of any use."""
    return [
        None, True, False, -1, 0, 10 ** 59, -10 ** 59, "", "A", "^", "ba", "aa", "abcde", "a b", b"", b"ab",
        bytearray(b"ab"), memoryview(b"ab"), [], ["a"], [[]], (), ("a",), ((),), {}, {"a": 1}, {(): ()}, {None: {}},
        range(3), slice(3), Ellipsis, NotImplemented, len, int, object(), iter([]), (k for k in []), lambda: 0,
        deep("tuple"), deep("list"), deep("dict"), deep("tuple", ()), ("gap",) * 10000, [0] * 9999, ((0,),) * 5000,
        M, N, Prices("a", 1, {"a": (1, 1)}), Rig("a", 1, (1,), ()), Machine, Prices, Rig,
        errors.BadMachine("rows"), errors.NoRun, errors.NoRun(), ValueError("a"),
    ]


def drawn_machine(seed, rows="ab", answers=2, size=3, most=4):
    """A machine with moves that are drawn."""
    draw = random.Random(seed)
    return Machine(rows, answers, tuple(
        tuple(tuple((draw.randint(1, most), draw.randrange(size)) for _ in range(answers)) for _ in rows)
        for _ in range(size)))


def drawn_run(draw, rows, answers, length):
    """A run of so many rows."""
    code = "".join(draw.choice(rows) for _ in range(length))
    return code, tuple(draw.randrange(answers) for _ in range(length))


def all_runs(rows, answers, most):
    """All runs of at most so many rows, the earlier ones first."""
    for length in range(most + 1):
        for code in itertools.product(rows, repeat=length):
            for told in itertools.product(range(answers), repeat=length):
                yield "".join(code), told


def walk(machine, run, here=0):
    """The ticks of a run and the standing behind it, by the moves alone."""
    total = 0
    for row, answer in zip(*run):
        spent, here = machine.moves[here][machine.rows.index(row)][answer]
        total += spent
    return total, here


def raised(call, *given):
    """The error that a call raises, as its class and its fields, or None."""
    try:
        call(*given)
    except errors.StretchError as error:
        return type(error).__name__, vars(error)
    return None
