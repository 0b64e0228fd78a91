"""The desk, which works by lines."""

from stretchprices.best import best
from stretchprices.books import book
from stretchprices.bounds import gap
from stretchprices.checks import is_figures, is_word
from stretchprices.errors import NoLine, NoName, NothingDone
from stretchprices.exact import least_exact
from stretchprices.machines import alike, ticks
from stretchprices.odd import worst_odd
from stretchprices.rates import rate
from stretchprices.reading import read_machine, read_prices
from stretchprices.rests import rest
from stretchprices.texts import decimal, written


def _is_name(word):
    return is_word(word) and len(word) <= 8


def _is_code_word(word):
    return word == "-" or is_word(word)


def _is_told_word(word):
    return word == "-" or is_figures(word)


def _is_figure(word):
    return is_figures(word) and len(word) == 1


def _say_ticks(machine, code, told):
    return decimal(ticks(machine, (code, told)))


def _say_rest(machine, prices, code, told):
    return written(rest(machine, prices, (code, told)))


def _say_priced(machine, width):
    return "lots" if book(machine, width) is None else "book"


def _say_best(machine, width):
    found = best(machine, width)
    return "none" if found is None else written(found[0])


def _say_gap(machine, prices):
    found = gap(machine, prices)
    return "none" if found is None else written(found)


def _say_exact(machine):
    found = least_exact(machine)
    return "none" if found is None else decimal(found)


def _say_rate(one, other):
    return written(rate(one, other)[0])


def _say_alike(one, other):
    return _say_flag(alike(one, other))


def _say_even(machine):
    # A search for the shortest odd turn would take much longer where it has many rows.
    return _say_flag(worst_odd(machine)[:2] == ("most", 0))


def _say_flag(flag):
    return "yes" if flag else "no"


# For each first word of a line the kinds of the other words; lines with a text are not here.
FORMS = {"drop": ("name",), "names": (), "undo": (), "ticks": ("machine", "code", "told"),
         "rest": ("machine", "prices", "code", "told"), "priced": ("machine", "width"), "best": ("machine", "width"),
         "gap": ("machine", "prices"), "exact": ("machine",), "rate": ("machine", "machine"),
         "alike": ("machine", "machine"), "even": ("machine",)}
KINDS = {"name": _is_name, "machine": _is_name, "prices": _is_name, "code": _is_code_word, "told": _is_told_word,
         "width": _is_figure}
ANSWERS = {"ticks": _say_ticks, "rest": _say_rest, "priced": _say_priced, "best": _say_best, "gap": _say_gap,
           "exact": _say_exact, "rate": _say_rate, "alike": _say_alike, "even": _say_even}


class Desk:
    """Machines and prices that are kept under names."""

    def __init__(self):
        self._machines = {}
        self._prices = {}
        # For each line that can be taken back: a name, and the machine and the prices that it had ahead, or None.
        self._elder = []

    def tell(self, line):
        """Do a line; the answer is a string."""
        if not isinstance(line, str) or "\n" in line:
            raise NoLine()
        word, blank, behind = line.partition(" ")
        if word == "machine" or word == "prices":
            return self._keep(word, behind)
        words = behind.split(" ") if blank == " " else []
        if not _has_form(word, words):
            raise NoLine()
        if word == "names":
            return " ".join(sorted(self._machines)) if self._machines else "none"
        if word == "undo":
            return self._undo()
        if word == "drop":
            return self._drop(words[0])
        given = [self._meant(kind, each) for kind, each in zip(FORMS[word], words)]
        say = ANSWERS[word]
        return say(*given)

    def undoable(self):
        """How many lines can be taken back."""
        return len(self._elder)

    def _keep(self, word, behind):
        """Do a line that keeps the machine or the prices of a text."""
        name, _, text = behind.partition(" ")
        if not _is_name(name) or text == "":
            raise NoLine()
        lines = text.replace("|", "\n")
        if word == "machine":
            machine = read_machine(lines)
            self._remember(name)
            self._machines[name] = machine
        else:
            prices = read_prices(lines)
            self._remember(name)
            self._prices[name] = prices
        return "ok"

    def _drop(self, name):
        if name not in self._machines and name not in self._prices:
            raise NoName(name)
        self._remember(name)
        self._machines.pop(name, None)
        self._prices.pop(name, None)
        return "ok"

    def _undo(self):
        if not self._elder:
            raise NothingDone()
        name, machine, prices = self._elder.pop()
        _put_back(self._machines, name, machine)
        _put_back(self._prices, name, prices)
        return "ok"

    def _remember(self, name):
        """Remember what the name has, so that the line that is done next can be taken back."""
        self._elder.append((name, self._machines.get(name), self._prices.get(name)))

    def _meant(self, kind, word):
        """What a word of this kind means."""
        if kind == "machine":
            return _kept(self._machines, word)
        if kind == "prices":
            return _kept(self._prices, word)
        if kind == "code":
            return "" if word == "-" else word
        if kind == "told":
            return () if word == "-" else tuple([int(figure) for figure in word])
        return int(word)


def _has_form(word, words):
    """Whether a line with this first word and these other ones has one of the forms."""
    if word not in FORMS or len(words) != len(FORMS[word]):
        return False
    for kind, each in zip(FORMS[word], words):
        check = KINDS[kind]
        if not check(each):
            return False
    return True


def _kept(things, name):
    if name not in things:
        raise NoName(name)
    return things[name]


def _put_back(things, name, thing):
    """Let the name have what it had, perhaps nothing."""
    if thing is None:
        things.pop(name, None)
    else:
        things[name] = thing
