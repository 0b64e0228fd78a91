"""Which parts of a code a block does.

A lot of places of a code is told by a number: its bit k is 1 if the place k is in the lot. A list of such numbers, one
for each place, tells to which places something leads from each place.
"""


def places_done(block, code):
    """The list of the places to which the block can do the code from each place, its end among them."""
    found = _idle(code)
    for statement in block:
        found = _joined(found, _statement_done(statement, code))
    return found


def _statement_done(statement, code):
    """The same for a statement."""
    if statement[0] == "rows":
        word = statement[1]
        ends = [at + len(word) for at in range(len(code) + 1)]
        return [1 << end if code[at:end] == word else 0 for at, end in enumerate(ends)]
    if statement[0] == "either":
        return _merged([places_done(block, code) for block in statement[1]])
    _, least, most, block = statement
    once = places_done(block, code)
    # A block that can do nothing leads no further with more times than places, any other one nowhere.
    enough = len(code) + 1
    ahead = _repeated(once, min(least, enough), code)
    return _joined(ahead, _repeated(_merged([_idle(code), once]), min(most - least, enough), code))


def _idle(code):
    """Where nothing leads: from each place to itself."""
    return [1 << at for at in range(len(code) + 1)]


def _joined(one, other):
    """Where the one and behind it the other leads."""
    return [_onward(lot, other) for lot in one]


def _onward(lot, goals):
    """The lot of the places to which the goals lead from a lot."""
    found = 0
    while lot != 0:
        at = lot.bit_length() - 1
        found = found | goals[at]
        lot = lot - (1 << at)
    return found


def _merged(lists):
    """Where any of these leads."""
    found = [0 for _ in lists[0]]
    for goals in lists:
        found = [lot | other for lot, other in zip(found, goals)]
    return found


def _repeated(once, times, code):
    """Where it leads so many times."""
    found = _idle(code)
    while times > 0:
        if times % 2 == 1:
            found = _joined(found, once)
        once = _joined(once, once)
        times = times // 2
    return found
