"""What a rig's rows take, told from the words of the document by the rows ahead of each row."""


def gap_waits(part, rows, code, told):
    _, firsts, seconds, wait = part
    return [wait if at > 0 and code[at - 1] in firsts and code[at] in seconds else 0 for at in range(len(code))]


def kept_waits(part, rows, code, told):
    _, lines, size, wait = part
    touched = [lines[rows.index(row)] for row in code]
    waits = []
    for at, line in enumerate(touched):
        last = []
        for elder in reversed(touched[:at]):
            if elder is not None and elder not in last:
                last.append(elder)
        waits.append(wait if line is not None and line not in last[:size] else 0)
    return waits


def guess_waits(part, rows, code, told):
    _, letters, bits, wait = part
    counter, waits = 0, []
    for row, answer in zip(code, told):
        if row not in letters:
            waits.append(0)
            continue
        guessed = counter >= 2 ** (bits - 1)
        waits.append(wait if guessed != (answer > 0) else 0)
        counter = min(2 ** bits - 1, counter + 1) if answer > 0 else max(0, counter - 1)
    return waits


def couple_waits(part, rows, code, told):
    _, pairs, gain = part
    second = [False] * len(code)
    for at in range(1, len(code)):
        second[at] = not second[at - 1] and code[at - 1:at + 1] in pairs
    return [-gain if it else 0 for it in second]


def answer_waits(part, rows, code, told):
    return [part[1][rows.index(row)][answer] for row, answer in zip(code, told)]


def buffer_waits(part, rows, code, told):
    _, letters, size, wait = part
    held, waits = 0, []
    for row in code:
        waits.append(wait if row in letters and held == size else 0)
        held = min(size, held + 1) if row in letters else max(0, held - 1)
    return waits


WAITS = {"gap": gap_waits, "kept": kept_waits, "guess": guess_waits, "couple": couple_waits, "answer": answer_waits,
         "buffer": buffer_waits}


def slow_ticks(rows, base, parts, run):
    """The ticks of each row of a run."""
    code, told = run
    spans = [base[rows.index(row)] for row in code]
    for part in parts:
        for at, waited in enumerate(WAITS[part[0]](part, rows, code, told)):
            spans[at] += waited
    return spans


def drawn_letters(draw, rows):
    return "".join(row for row in rows if draw.randrange(2)) or draw.choice(rows)


def drawn_part(draw, kind, rows, answers, most=20):
    """A part of this kind with numbers that are drawn."""
    wait = draw.randint(1, most)
    if kind == "gap":
        return ("gap", drawn_letters(draw, rows), drawn_letters(draw, rows), wait)
    if kind == "kept":
        return ("kept", tuple(draw.choice((None, 0, 1, 2, 3)) for _ in rows), draw.randint(1, 2), wait)
    if kind == "guess":
        return ("guess", drawn_letters(draw, rows), draw.randint(1, 2), wait)
    if kind == "couple":
        pairs = sorted({draw.choice(rows) + draw.choice(rows) for _ in range(draw.randint(1, 4))})
        draw.shuffle(pairs)
        return ("couple", tuple(pairs), draw.randint(1, min(9, most)))
    if kind == "answer":
        return ("answer", tuple(tuple(draw.randint(0, most) for _ in range(answers)) for _ in rows))
    return ("buffer", drawn_letters(draw, rows), draw.randint(1, 3), wait)
