"""Reading texts of machines and of prices."""

from stretchprices.checks import is_figures, is_word
from stretchprices.errors import BadText
from stretchprices.machines import Machine
from stretchprices.stretches import Prices

MOST_FIGURES = 9
MOST_FRACTION_FIGURES = 60


def read_machine(text):
    """The machine of a text."""
    lines, is_closed = _lines_of(text)
    rows, answers = _head(lines, "machine", "123456789")
    moves = []
    for at, line in enumerate(lines[1:]):
        due = at % (len(rows) + 1)
        if due == 0:
            moves.append([])
            is_right = _is_standing(line, len(moves) - 1)
        else:
            found = _moves_of(line, rows[due - 1], answers)
            moves[-1].append(found)
            is_right = found is not None
        if not is_right:
            raise BadText(at + 2)
    if not is_closed or not moves or len(moves[-1]) < len(rows):
        raise BadText(len(lines) + 1)
    return Machine(rows, answers, tuple([tuple(item) for item in moves]))


def read_prices(text):
    """The prices of a text."""
    lines, is_closed = _lines_of(text)
    rows, width = _head(lines, "prices", "0123456789")
    table = {}
    last = ""
    for at, line in enumerate(lines[1:]):
        found = _price_of(line)
        if found is None or found[0] <= last:
            raise BadText(at + 2)
        last = found[0]
        table[last] = found[1]
    if not is_closed or not table:
        raise BadText(len(lines) + 1)
    return Prices(rows, width, table)


def _lines_of(text):
    """The lines of a text that are closed by a line feed, and whether nothing stands behind the last one."""
    if not isinstance(text, str):
        raise BadText(0)
    parts = text.split("\n")
    return parts[:-1], parts[-1] == ""


def _head(lines, word, figures):
    """The rows and the number, one of the figures, of the first line, which begins with the word."""
    words = lines[0].split(" ") if lines else []
    if len(words) != 3 or words[0] != word or not is_word(words[1]):
        raise BadText(1)
    if len(words[2]) != 1 or words[2] not in figures:
        raise BadText(1)
    return words[1], int(words[2])


def _is_standing(line, due):
    """Whether a line begins the standing that is due."""
    words = line.split(" ")
    return len(words) == 2 and words[0] == "at" and _is_number(words[1], MOST_FIGURES) and int(words[1]) == due


def _moves_of(line, row, answers):
    """The pairs of ticks and goals, one for each answer, of a line of the row, or None if it is none."""
    words = line.split(" ")
    if len(words) != 1 + 2 * answers or words[0] != row:
        return None
    if not all([_is_number(word, MOST_FIGURES) for word in words[1:]]):
        return None
    numbers = [int(word) for word in words[1:]]
    return tuple([(numbers[2 * at], numbers[2 * at + 1]) for at in range(answers)])


def _price_of(line):
    """The stretch and the price of a line, or None if it is no such line."""
    words = line.split(" ")
    if len(words) != 2:
        return None
    fraction = _fraction_of(words[1])
    letters = words[0][1:] if words[0][:1] == "^" else words[0]
    if fraction is None or not is_word(letters):
        return None
    return words[0], fraction


def _fraction_of(word):
    """The pair of the top and the bottom that a word tells, perhaps not in lowest terms, or None if it is none."""
    top, slash, bottom = word.partition("/")
    if slash == "":
        bottom = "1"
    elif not _is_number(bottom, MOST_FRACTION_FIGURES) or int(bottom) < 2:
        return None
    is_below = top[:1] == "-"
    amount = top[1:] if is_below else top
    if not _is_number(amount, MOST_FRACTION_FIGURES):
        return None
    if is_below and int(amount) == 0:
        return None
    return int(top), int(bottom)


def _is_number(word, most):
    """Whether a word is a number of at most so many figures, without needless zeros ahead."""
    return is_figures(word) and len(word) <= most and (word == "0" or word[0] != "0")
