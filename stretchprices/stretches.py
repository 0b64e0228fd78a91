"""Stretches of codes, and price lists for them."""

from math import lcm

from stretchprices.checks import LETTERS, is_code, is_rows, is_width
from stretchprices.errors import BadPrices, NoCode, NoRows, NoWidth
from stretchprices.ratios import is_fraction, lowest


class Prices:
    """A price for each stretch of a width over some rows."""

    def __init__(self, rows, width, table):
        if not is_rows(rows):
            raise BadPrices("rows")
        if not is_width(width):
            raise BadPrices("width")
        if not _is_table(table, _stretches_over(rows, width)):
            raise BadPrices("table")
        self.rows = rows
        self.width = width
        self._table = dict(table)

    @property
    def table(self):
        """A new dict from all stretches to their prices."""
        return dict(self._table)

    def __eq__(self, other):
        return (isinstance(other, Prices) and self.rows == other.rows
                and self.width == other.width and self._table == other._table)


def _is_table(table, names):
    if not isinstance(table, dict) or len(table) != len(names):
        return False
    return all([name in table and is_fraction(table[name]) for name in names])


def stretches(code, width):
    """The list of the stretches of a code, one that ends with each row."""
    check_code(code, LETTERS)
    check_width(width)
    return [stretch_at(code, end, width) for end in range(1, len(code) + 1)]


def stretch_at(code, end, width):
    """The stretch that ends ahead of this place of the code."""
    if end < width:
        return "^" + code[:end]
    return code[end - width:end]


def all_stretches(rows, width):
    """The ascending list of all stretches of codes over the rows."""
    check_rows(rows)
    check_width(width)
    return _stretches_over(rows, width)


def _stretches_over(rows, width):
    codes = [""]
    found = []
    for _ in range(width - 1):
        codes = [code + row for code in codes for row in rows]
        found.extend(["^" + code for code in codes])
    found.extend([code + row for code in codes for row in rows])
    return sorted(found)


def price(prices, code):
    """The sum of the prices of the code's stretches."""
    check_code(code, prices.rows)
    return cost(prices, code)


def cost(prices, code):
    """The same of what is known to be a code over the rows."""
    tops, bottom = shared_bottom(prices)
    total, _ = charged(tops, prices.width, first_tail(prices.width), code)
    return lowest(total, bottom)


def shared_bottom(prices):
    """A dict from the stretches to the tops of their prices over one bottom, and this bottom."""
    table = prices.table
    bottom = 1
    for stretch in table:
        bottom = lcm(bottom, table[stretch][1])
    tops = {stretch: table[stretch][0] * (bottom // table[stretch][1]) for stretch in table}
    return tops, bottom


def charged(tops, width, tail, code):
    """What the rows of a code cost that stands behind the tail, by the tops, and the tail behind it."""
    total = 0
    for row in code:
        total += tops[tail + row]
        tail = tail_behind(tail + row, width)
    return total, tail


def first_tail(width):
    """The tail of the empty code: what of it the next stretch begins with."""
    return "" if width == 1 else "^"


def tail_behind(stretch, width):
    """The tail behind a stretch: what of it the next stretch begins with."""
    # A stretch that begins with "^" is shorter than the width until that many signs stand there.
    return stretch if len(stretch) < width else stretch[1:]


def check_code(thing, rows):
    """Raise the error for what is no code over the rows."""
    if not is_code(thing, rows):
        raise NoCode()


def check_rows(thing):
    """Raise the error for what is no rows."""
    if not is_rows(thing):
        raise NoRows()


def check_width(thing):
    """Raise the error for what is no width."""
    if not is_width(thing):
        raise NoWidth()
