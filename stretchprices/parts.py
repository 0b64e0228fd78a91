"""The parts of a rig: which forms they have, and what they remember and make a row wait."""

from stretchprices.checks import is_between, is_code, is_letters, is_tuple


def is_part(thing, rows, answers):
    """Whether it is a part of a rig with these rows and answers."""
    if not isinstance(thing, tuple) or len(thing) == 0 or not isinstance(thing[0], str):
        return False
    if thing[0] not in FORMS:
        return False
    check = FORMS[thing[0]]
    return check(thing, rows, answers)


def first_memory(part):
    """What a part remembers at first."""
    return FIRST[part[0]]


def part_step(part, memory, rows, at, answer):
    """How many ticks the part makes the row at this number wait, and what it remembers behind it."""
    step = STEPS[part[0]]
    return step(part, memory, rows, at, answer)


def _is_wait(thing):
    return is_between(thing, 1, 20)


def _is_gap(part, rows, answers):
    return len(part) == 4 and is_letters(part[1], rows) and is_letters(part[2], rows) and _is_wait(part[3])


def _is_kept(part, rows, answers):
    if len(part) != 4 or not is_tuple(part[1], len(rows)):
        return False
    if not all([line is None or is_between(line, 0, 3) for line in part[1]]):
        return False
    return is_between(part[2], 1, 2) and _is_wait(part[3])


def _is_guess(part, rows, answers):
    return len(part) == 4 and is_letters(part[1], rows) and is_between(part[2], 1, 2) and _is_wait(part[3])


def _is_couple(part, rows, answers):
    if len(part) != 3 or not isinstance(part[1], tuple) or not 1 <= len(part[1]) <= 4:
        return False
    if not all([is_code(pair, rows) and len(pair) == 2 for pair in part[1]]):
        return False
    return len(set(part[1])) == len(part[1]) and is_between(part[2], 1, 9)


def _is_answer(part, rows, answers):
    if len(part) != 2 or not is_tuple(part[1], len(rows)):
        return False
    return all([_are_waits(waits, answers) for waits in part[1]])


def _are_waits(thing, answers):
    return is_tuple(thing, answers) and all([is_between(wait, 0, 20) for wait in thing])


def _is_buffer(part, rows, answers):
    return len(part) == 4 and is_letters(part[1], rows) and is_between(part[2], 1, 3) and _is_wait(part[3])


def _gap_step(part, behind_first, rows, at, answer):
    _, firsts, seconds, wait = part
    waits = behind_first and rows[at] in seconds
    return (wait if waits else 0), rows[at] in firsts


def _kept_step(part, kept, rows, at, answer):
    _, lines, size, wait = part
    line = lines[at]
    if line is None:
        return 0, kept
    others = tuple([other for other in kept if other != line])
    return (0 if line in kept else wait), ((line,) + others)[:size]


def _guess_step(part, counter, rows, at, answer):
    _, letters, bits, wait = part
    if rows[at] not in letters:
        return 0, counter
    half = bits  # 2 ** (bits - 1), as bits is 1 or 2
    yes = answer != 0
    waited = 0 if yes == (counter >= half) else wait
    if yes:
        return waited, min(counter + 1, 2 * half - 1)
    return waited, max(counter - 1, 0)


def _couple_step(part, ahead, rows, at, answer):
    _, pairs, gain = part
    row = rows[at]
    if ahead + row in pairs:
        return -gain, ""
    firsts = [pair[0] for pair in pairs]
    return 0, (row if row in firsts else "")


def _answer_step(part, memory, rows, at, answer):
    return part[1][at][answer], memory


def _buffer_step(part, held, rows, at, answer):
    _, letters, size, wait = part
    if rows[at] not in letters:
        return 0, max(held - 1, 0)
    if held == size:
        return wait, held
    return 0, held + 1


FORMS = {"gap": _is_gap, "kept": _is_kept, "guess": _is_guess, "couple": _is_couple, "answer": _is_answer,
         "buffer": _is_buffer}
FIRST = {"gap": False, "kept": (), "guess": 0, "couple": "", "answer": None, "buffer": 0}
STEPS = {"gap": _gap_step, "kept": _kept_step, "guess": _guess_step, "couple": _couple_step, "answer": _answer_step,
         "buffer": _buffer_step}
