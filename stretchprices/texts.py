"""Texts of machines and of prices."""

# Python refuses to write numbers of many figures, so that they are written in parts of so many figures.
PART = 60
LIMIT = 10 ** 60


def machine_text(machine):
    """The text of a machine."""
    lines = [" ".join(["machine", machine.rows, decimal(machine.answers)])]
    for here, item in enumerate(machine.moves):
        lines.append("at " + decimal(here))
        for row, moves in zip(machine.rows, item):
            lines.append(" ".join([row] + [decimal(number) for move in moves for number in move]))
    return _closed(lines)


def prices_text(prices):
    """The text of prices."""
    table = prices.table
    lines = [" ".join(["prices", prices.rows, decimal(prices.width)])]
    lines.extend([stretch + " " + written(table[stretch]) for stretch in sorted(table)])
    return _closed(lines)


def written(fraction):
    """A fraction as it is written in texts."""
    top, bottom = fraction
    if bottom == 1:
        return decimal(top)
    return decimal(top) + "/" + decimal(bottom)


def decimal(number):
    """An integer as it is written in texts."""
    parts = []
    left = abs(number)
    while left >= LIMIT:
        parts.append(str(left % LIMIT).zfill(PART))
        left = left // LIMIT
    parts.append(str(left))
    sign = "-" if number < 0 else ""
    return sign + "".join(parts[::-1])


def _closed(lines):
    return "".join([line + "\n" for line in lines])
