"""Charts: the greatest sums of ways between spots, as the codes that a block does lead them.

A chart is a dict from spots to dicts from the spots to which ways lead from there to the greatest sums of these ways.
"""


def program_sums(program, charts, start):
    """The greatest sum of the ways from the start that are led by a code that the program does.

    charts is a dict from rows to the charts of what each row does, at least one way from each spot.
    """
    led = _led({start: {start: 0}}, program, charts)
    return max(led[start].values())


def _led(chart, block, charts):
    """The chart behind which the block is done."""
    for statement in block:
        chart = _stepped(chart, statement, charts)
    return chart


def _stepped(chart, statement, charts):
    """The chart behind which the statement is done."""
    if statement[0] == "rows":
        for row in statement[1]:
            chart = _joined(chart, charts[row])
        return chart
    if statement[0] == "either":
        return _merged([_led(chart, block, charts) for block in statement[1]])
    _, least, most, block = statement
    idle = {spot: {spot: 0} for row in charts for spot in charts[row]}
    once = _led(idle, block, charts)
    # Once or not at all, again and again, is any number of times up to that many.
    return _repeated(_repeated(chart, once, least), _merged([idle, once]), most - least)


def _joined(chart, other):
    """The chart of ways of the one and behind them ways of the other."""
    return {start: _onward(chart[start], other) for start in chart}


def _onward(levels, chart):
    """The greatest sums by ways that go on from spots with these sums."""
    found = {}
    for spot in levels:
        level = levels[spot]
        for there, worth in chart[spot].items():
            if there not in found or level + worth > found[there]:
                found[there] = level + worth
    return found


def _merged(charts):
    """The chart of all ways of these charts."""
    found = {start: {} for start in charts[0]}
    for chart in charts:
        for start in chart:
            levels = found[start]
            for there, level in chart[start].items():
                levels[there] = max(level, levels.get(there, level))
    return found


def _repeated(chart, once, times):
    """The chart behind which the ways of once are gone so many times."""
    while True:
        if times % 2 == 1:
            chart = _joined(chart, once)
        times = times // 2
        if times == 0:
            return chart
        twice = _joined(once, once)
        rises = _rises(once, twice)
        if rises is not None:
            # Each further time makes the same sums greater by as much again.
            many = 2 * times - 1
            far = {spot: {there: worth + many * rises[spot] for there, worth in once[spot].items()} for spot in once}
            return _joined(chart, far)
        once = twice


def _rises(once, twice):
    """By how much all sums from each spot are greater in the one chart than in the other, or None if they differ."""
    found = {}
    for spot in once:
        levels = once[spot]
        if len(twice[spot]) != len(levels) or not all([there in twice[spot] for there in levels]):
            return None
        steps = [twice[spot][there] - levels[there] for there in levels]
        if min(steps) != max(steps):
            return None
        found[spot] = steps[0]
    return found
