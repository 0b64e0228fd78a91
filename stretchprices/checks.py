"""Whether things are of the plain kinds that the whole package asks for."""

from stretchprices.errors import NoNumber

LETTERS = "abcdefghijklmnopqrstuvwxyz"
FIGURES = "0123456789"


def is_integer(thing):
    """Whether it is an integer: a flag is none."""
    return isinstance(thing, int) and not isinstance(thing, bool)


def is_between(thing, least, most):
    """Whether it is an integer from least to most."""
    return is_integer(thing) and least <= thing <= most


def is_tuple(thing, many):
    """Whether it is a tuple of so many."""
    return isinstance(thing, tuple) and len(thing) == many


def is_letters(thing, letters):
    """Whether it is a string of one or more different ones of the letters, ascending."""
    if not is_code(thing, letters) or thing == "":
        return False
    return all([thing[at] < thing[at + 1] for at in range(len(thing) - 1)])


def is_rows(thing):
    """Whether it names the rows of a machine."""
    return is_letters(thing, LETTERS) and len(thing) <= 4


def is_answers(thing):
    """Whether it is a number of answers."""
    return is_between(thing, 1, 3)


def is_width(thing):
    """Whether it is a width."""
    return is_between(thing, 1, 3)


def is_code(thing, rows):
    """Whether it is a string of these rows, perhaps empty."""
    return isinstance(thing, str) and all([row in rows for row in thing])


def is_word(thing):
    """Whether it is a string of one or more letters."""
    return is_code(thing, LETTERS) and thing != ""


def is_figures(thing):
    """Whether it is a string of one or more figures."""
    return is_code(thing, FIGURES) and thing != ""


def is_run(thing, rows, answers):
    """Whether it is a run with these rows and so many answers."""
    if not is_tuple(thing, 2):
        return False
    code, told = thing
    if not is_code(code, rows) or not is_tuple(told, len(code)):
        return False
    return all([is_between(answer, 0, answers - 1) for answer in told])


def check_integer(thing):
    """Raise the error for what is no integer."""
    if not is_integer(thing):
        raise NoNumber()


def check_amount(thing):
    """Raise the error for what is no integer from 0 to 10 ** 30."""
    if not is_between(thing, 0, 10 ** 30):
        raise NoNumber()
