"""The errors that the package raises."""


class StretchError(ValueError):
    """What all errors of the package are."""


class BadMachine(StretchError):
    """A part of a machine is not as told."""

    def __init__(self, part):
        self.part = part


class NoStanding(StretchError):
    """Something is no standing of the machine."""


class NoRun(StretchError):
    """Something is no run with these rows and answers."""


class OtherRows(StretchError):
    """Two things have unlike rows or answers."""


class BadRig(StretchError):
    """A part of a rig is not as told."""

    def __init__(self, part):
        self.part = part


class TooMany(StretchError):
    """There are more of something than the most that are let."""

    def __init__(self, most):
        self.most = most


class NoCode(StretchError):
    """Something is no code, or none over these rows."""


class NoWidth(StretchError):
    """Something is no width."""


class NoRows(StretchError):
    """Something is no rows."""


class BadPrices(StretchError):
    """A part of prices is not as told."""

    def __init__(self, part):
        self.part = part


class NoLong(StretchError):
    """Something is no long run with these rows and answers."""


class NoFraction(StretchError):
    """Something is no fraction."""


class NoNumber(StretchError):
    """Something is no number of the kind that is asked for."""


class NoMeter(StretchError):
    """Something is no meter of the machine."""


class NoMeters(StretchError):
    """Something is no meters of the machine."""


class NoWeights(StretchError):
    """Something is no weights for these meters."""


class NoMeasures(StretchError):
    """Something is no measures over these rows."""


class Clash(StretchError):
    """No prices fit the measures."""


class NoSlack(StretchError):
    """Something is no slack."""


class NoCodes(StretchError):
    """Something is no codes over these rows."""


class NoProgram(StretchError):
    """Something is no program over these rows."""


class NoBefores(StretchError):
    """Something is no befores for the code."""


class BadText(StretchError):
    """A line of a text is not as told."""

    def __init__(self, line):
        self.line = line


class NoPlace(StretchError):
    """Something is no place on the bench."""


class NoRow(StretchError):
    """Something is no row of the machine."""


class NoAnswer(StretchError):
    """Something is no answer of the machine."""


class NothingDone(StretchError):
    """There is nothing to take back."""


class NoLine(StretchError):
    """Something is no line that the desk does."""


class NoName(StretchError):
    """Nothing is kept under a name."""

    def __init__(self, name):
        self.name = name
