"""Rigs: machines that are told by parts."""

from stretchprices.checks import is_answers, is_between, is_rows, is_tuple
from stretchprices.errors import BadRig, TooMany
from stretchprices.machines import grown
from stretchprices.parts import first_memory, is_part, part_step
from stretchprices.walks import earliest

MOST_STANDINGS = 60


class Rig:
    """What each row takes at least, and parts that make rows wait or gain."""

    def __init__(self, rows, answers, base, parts):
        if not is_rows(rows):
            raise BadRig("rows")
        if not is_answers(answers):
            raise BadRig("answers")
        if not is_tuple(base, len(rows)) or not all([is_between(least, 1, 20) for least in base]):
            raise BadRig("base")
        if not isinstance(parts, tuple) or len(parts) > 3:
            raise BadRig("parts")
        if not all([is_part(part, rows, answers) for part in parts]):
            raise BadRig("parts")
        self.rows = rows
        self.answers = answers
        self.base = base
        self.parts = parts
        if _least_ticks(self) < 1:
            raise BadRig("ticks")

    def __eq__(self, other):
        return (isinstance(other, Rig) and self.rows == other.rows and self.answers == other.answers
                and self.base == other.base and self.parts == other.parts)


def machine_of(rig):
    """The machine in which each row takes as many ticks as in the rig."""
    memories = _memories(rig)
    if len(memories) > MOST_STANDINGS:
        raise TooMany(MOST_STANDINGS)
    number = {memory: at for at, memory in enumerate(memories)}
    return grown(rig.rows, rig.answers, tuple([_item(rig, memory, number) for memory in memories]))


def _item(rig, memory, number):
    """The item of the standing that is this memory."""
    item = []
    for at in range(len(rig.rows)):
        moves = [_step(rig, memory, at, answer) for answer in range(rig.answers)]
        item.append(tuple([(spent, number[behind]) for spent, behind in moves]))
    return tuple(item)


def _least_ticks(rig):
    """The least ticks that any run makes a row take."""
    spans = []
    for memory in _memories(rig):
        for at in range(len(rig.rows)):
            spans.extend([_step(rig, memory, at, answer)[0] for answer in range(rig.answers)])
    return min(spans)


def _memories(rig):
    """All that the parts remember together as runs lead there, in the order of the earliest runs."""
    start = tuple([first_memory(part) for part in rig.parts])
    return list(earliest(start, lambda memory: _onward(rig, memory)))


def _onward(rig, memory):
    """The steps from a memory as triples (row, answer, memory behind)."""
    found = []
    for at, row in enumerate(rig.rows):
        for answer in range(rig.answers):
            found.append((row, answer, _step(rig, memory, at, answer)[1]))
    return found


def _step(rig, memory, at, answer):
    """The ticks that the row at this number takes, and the memory behind it."""
    total = rig.base[at]
    behind = []
    for part, kept in zip(rig.parts, memory):
        waited, left = part_step(part, kept, rig.rows, at, answer)
        total += waited
        behind.append(left)
    return total, tuple(behind)
