"""Books and lots looked at by sums alone, and machines whose ticks are made of prices and heights."""

import random
from fractions import Fraction

from stretchprices.machines import Machine
from stretchprices.webs import pieces, places


def inner_steps(machine, width):
    """All steps inside pieces: a dict to their ticks, the stretches that they end and the places behind."""
    spots = places(machine, width)
    piece_of = {spots[at]: piece for piece in pieces(machine, width) for at in piece}
    found = {}
    for place in piece_of:
        for at, row in enumerate(machine.rows):
            for answer, (spent, there) in enumerate(machine.moves[place[0]][at]):
                stretch = place[1] + row
                tail = stretch[1:] if len(stretch) == width else stretch
                if piece_of.get((there, tail)) == piece_of[place]:
                    found[place, row, answer] = (spent, stretch, (there, tail))
    return found


def can_be_told(machine, width):
    """Whether the equations of a book have a solution, by elimination of all unknowns."""
    kept = []
    for (place, _, _), (spent, stretch, there) in inner_steps(machine, width).items():
        line = {}
        for key, many in ((stretch, 1), (there, 1), (place, -1)):
            line[key] = line.get(key, Fraction(0)) + many
        line["ticks"] = Fraction(spent)
        for pivot, other in kept:
            many = line.get(pivot, 0)
            if many:
                for key in other:
                    line[key] = line.get(key, Fraction(0)) - many * other[key]
        line = {key: line[key] for key in line if line[key]}
        pivot = next((key for key in line if key != "ticks"), None)
        if pivot is not None:
            kept.append((pivot, {key: line[key] / line[pivot] for key in line}))
        elif line:
            return False
    return True


def is_right_book(machine, width, thing):
    """Whether a pair of prices and heights tells all ticks inside pieces."""
    prices, heights = thing
    spots = places(machine, width)
    if set(heights) != {spots[at] for piece in pieces(machine, width) for at in piece}:
        return False
    table = prices.table
    return all(spent - Fraction(*table[stretch]) == Fraction(*heights[there]) - Fraction(*heights[step[0]])
               for step, (spent, stretch, there) in inner_steps(machine, width).items())


def told(lot, steps):
    """The ticks of a lot, the list of its stretches with their numbers, and whether all places are left as reached."""
    total, ended, over = 0, {}, {}
    for step, many in lot.items():
        spent, stretch, there = steps[step]
        total += many * spent
        ended[stretch] = ended.get(stretch, 0) + many
        over[there] = over.get(there, 0) + many
        over[step[0]] = over.get(step[0], 0) - many
    return total, ended, not any(over.values())


def are_right_lots(machine, width, thing):
    """Whether a pair of lots has the same stretches and unlike ticks."""
    steps = inner_steps(machine, width)
    one, other = [told(lot, steps) for lot in thing]
    return one[2] and other[2] and one[1] == other[1] and one[0] != other[0]


def made_machine(seed, width, rows="ab", most=3):
    """A machine whose ticks are those of prices of the width and heights: a book for it is sure."""
    draw = random.Random(seed)
    tails = [""]
    for _ in range(width - 1):
        tails = [tail + row for tail in tails for row in rows]
    count = max(1, min(most, 12 // len(tails)))
    spots = [(k, tail) for tail in tails for k in range(count)]
    worth = {tail + row: draw.randint(10, 60) for tail in tails for row in rows}
    height = {spot: draw.randint(-4, 4) for spot in spots}
    answers = draw.randint(1, 3)
    moves = []
    for k, tail in spots:
        item = []
        for row in rows:
            pairs = []
            for _ in range(answers):
                goal = (draw.randrange(count), (tail + row)[1:])
                pairs.append((worth[tail + row] + height[goal] - height[k, tail], spots.index(goal)))
            item.append(tuple(pairs))
        moves.append(tuple(item))
    return Machine(rows, answers, tuple(moves))


def one_tick_more(seed, machine):
    """The same machine, but for one tick more of a row at a standing."""
    draw = random.Random(seed)
    moves = [[list(pairs) for pairs in item] for item in machine.moves]
    pairs = draw.choice(draw.choice(moves))
    at = draw.randrange(len(pairs))
    pairs[at] = (pairs[at][0] + 1, pairs[at][1])
    return Machine(machine.rows, machine.answers, tuple(tuple(tuple(it) for it in item) for item in moves))
