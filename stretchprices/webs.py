"""Places to which runs lead, the steps between them, and the pieces in which they hang together."""

from stretchprices.checks import is_integer, is_tuple
from stretchprices.errors import TooMany
from stretchprices.ratios import is_fraction
from stretchprices.stretches import check_width, first_tail, tail_behind
from stretchprices.walks import earliest

MOST_PLACES = 300


def places(machine, width):
    """The list of all places to which runs lead, in the order of the earliest runs."""
    check_width(width)
    return places_up_to(machine, width, MOST_PLACES)


def places_up_to(machine, width, most):
    """The list of all places to which runs lead, if there are at most so many."""
    found = list(earliest((0, first_tail(width)), lambda place: _onward(machine, width, place)))
    if len(found) > most:
        raise TooMany(most)
    return found


def pieces(machine, width):
    """The list of all pieces, each the tuple of the numbers of its places."""
    return _knots(_goals(machine, width, places(machine, width)))


def inside(machine, width):
    """For each piece the list of its places, and the list of what the steps inside it do, as steps_from tells it."""
    spots = places(machine, width)
    found = []
    for piece in _knots(_goals(machine, width, spots)):
        members = {spots[at]: True for at in piece}
        steps = [step for place in members for step in steps_from(machine, width, place) if step[3] in members]
        found.append((list(members), steps))
    return found


def inner_steps(machine, width):
    """A dict from the steps inside pieces to what they do, as steps_from tells it."""
    return {step[0]: step for _, inner in inside(machine, width) for step in inner}


def steps_from(machine, width, place):
    """What the steps of a place do: tuples of the step, its ticks, the stretch that it ends and the place behind."""
    here, tail = place
    found = []
    for at, row in enumerate(machine.rows):
        stretch = tail + row
        behind = tail_behind(stretch, width)
        for answer in range(machine.answers):
            spent, there = machine.moves[here][at][answer]
            found.append(((place, row, answer), spent, stretch, (there, behind)))
    return found


def is_place(thing):
    """Whether it has the form of a place."""
    return is_tuple(thing, 2) and is_integer(thing[0]) and isinstance(thing[1], str)


def is_step(thing):
    """Whether it has the form of a step."""
    return is_tuple(thing, 3) and is_place(thing[0]) and isinstance(thing[1], str) and is_integer(thing[2])


def are_heights(thing, spots):
    """Whether it is a dict from exactly these places to fractions."""
    # A flag is found in a dict where a number stands, so that the form of each key is looked at, too.
    if not isinstance(thing, dict) or len(thing) != len(spots) or not all([is_place(place) for place in thing]):
        return False
    return all([place in thing and is_fraction(thing[place]) for place in spots])


def _onward(machine, width, place):
    """The steps of a place as triples (row, answer, place behind)."""
    return [(step[1], step[2], there) for step, _, _, there in steps_from(machine, width, place)]


def _goals(machine, width, spots):
    """For each place the list of the numbers of the places to which its steps lead."""
    number = {place: at for at, place in enumerate(spots)}
    return [[number[step[3]] for step in steps_from(machine, width, place)] for place in spots]


def _knots(goals):
    """The ascending list of the pieces of a web, told by the numbers to which each number leads."""
    sources = [[] for _ in goals]
    for at, ends in enumerate(goals):
        for end in ends:
            sources[end].append(at)
    dealt = {}
    found = []
    for at in range(len(goals)):
        if at in dealt:
            continue
        ahead = _reached(goals, at)
        knot = [other for other in sorted(_reached(sources, at)) if other in ahead]
        dealt.update({other: True for other in knot})
        if len(knot) > 1 or at in goals[at]:
            found.append(tuple(knot))
    return found


def _reached(links, start):
    """A dict of all numbers to which links lead from the start, the start among them."""
    found = {start: True}
    queue = [start]
    while queue:
        for end in links[queue.pop()]:
            if end not in found:
                found[end] = True
                queue.append(end)
    return found
