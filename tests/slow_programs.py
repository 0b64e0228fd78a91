"""Programs by the words of the document: all their codes, drawn ones, and plain tables for loops with great numbers."""

import itertools
import random


def codes_of(block):
    """The set of all codes that a block does."""
    found = {""}
    for statement in block:
        found = {code + more for code in found for more in statement_codes(statement)}
    return found


def statement_codes(statement):
    if statement[0] == "rows":
        return {statement[1]}
    if statement[0] == "either":
        return set().union(*(codes_of(block) for block in statement[1]))
    _, least, most, block = statement
    once, found, now = codes_of(block), set(), {""}
    for turn in range(most + 1):
        if turn >= least:
            found |= now
        if turn < most:
            now = {code + more for code in now for more in once}
    return found


def drawn_program(draw, rows, deep=1, most=3, turns=2):
    """A program that is drawn: of few statements, and of no more times than told."""
    return tuple(drawn_statement(draw, rows, deep, most, turns) for _ in range(draw.randint(0, most)))


def drawn_statement(draw, rows, deep, most, turns):
    kind = draw.choice(("rows", "either", "times", "times")) if deep < 4 else "rows"
    if kind == "rows":
        return "rows", "".join(draw.choice(rows) for _ in range(draw.randint(0, 3)))
    if kind == "either":
        return "either", tuple(drawn_program(draw, rows, deep + 1, 2, turns) for _ in range(draw.randint(1, 4)))
    least = draw.randint(0, turns)
    return "times", least, draw.randint(least, turns), drawn_program(draw, rows, deep + 1, 2, turns)


def small_programs(rows, many, most=250):
    """Drawn programs that do few codes, each with the set of them."""
    for seed in itertools.count():
        program = drawn_program(random.Random(seed), rows)
        if size_of(program) <= most:
            yield program, codes_of(program)
            many -= 1
            if many == 0:
                return


def size_of(block):
    """A number that is not below how many codes a block does."""
    total = 1
    for statement in block:
        if statement[0] == "either":
            total *= sum(size_of(each) for each in statement[1])
        elif statement[0] == "times":
            total *= sum(size_of(statement[3]) ** turn for turn in range(statement[1], statement[2] + 1))
    return total


def walks(machine, code):
    """The set of pairs (ticks, standing) of all runs with a code."""
    found = {(0, 0)}
    for row in code:
        at = machine.rows.index(row)
        found = {(total + spent, there) for total, here in found for spent, there in machine.moves[here][at]}
    return found


def slow_extremes(machine, codes):
    """The least and the greatest ticks of runs with these codes."""
    totals = [total for code in codes for total, _ in walks(machine, code)]
    return min(totals), max(totals)


def table_extremes(machine, program):
    """The same for any numbers of times: by tables of all standings, made greater by squaring alone."""
    spots = range(machine.size)

    def better(one, other, pick):
        return other if one is None else one if other is None else pick(one, other)

    def joined(one, other, pick):
        table = [[None for _ in spots] for _ in spots]
        for here in spots:
            for between in spots:
                if one[here][between] is not None:
                    for there in spots:
                        if other[between][there] is not None:
                            total = one[here][between] + other[between][there]
                            table[here][there] = better(table[here][there], total, pick)
        return table

    def merged(tables, pick):
        table = tables[0]
        for other in tables[1:]:
            table = [[better(one, two, pick) for one, two in zip(line, beside)] for line, beside in zip(table, other)]
        return table

    def power(table, times, pick):
        found = idle
        while times:
            if times & 1:
                found = joined(found, table, pick)
            table = joined(table, table, pick)
            times >>= 1
        return found

    def block_table(block, pick):
        found = idle
        for statement in block:
            found = joined(found, statement_table(statement, pick), pick)
        return found

    def statement_table(statement, pick):
        if statement[0] == "rows":
            found = idle
            for row in statement[1]:
                found = joined(found, rows[pick][row], pick)
            return found
        if statement[0] == "either":
            return merged([block_table(each, pick) for each in statement[1]], pick)
        once = block_table(statement[3], pick)
        return joined(power(once, statement[1], pick),
                      power(merged([idle, once], pick), statement[2] - statement[1], pick), pick)

    idle = [[0 if here == there else None for there in spots] for here in spots]
    rows = {min: {}, max: {}}
    for pick in rows:
        for at, row in enumerate(machine.rows):
            table = [[None for _ in spots] for _ in spots]
            for here in spots:
                for spent, there in machine.moves[here][at]:
                    table[here][there] = better(table[here][there], spent, pick)
            rows[pick][row] = table
    return tuple(pick(total for total in block_table(program, pick)[0] if total is not None) for pick in (min, max))
