"""Measured codes: which prices fit them, and what they make sure."""

from stretchprices.checks import is_code, is_tuple
from stretchprices.equations import solve
from stretchprices.errors import Clash, NoCodes, NoMeasures, NoSlack
from stretchprices.mixtures import counted, independent, is_mixture, mixed
from stretchprices.ratios import NOTHING, check_fraction, is_at_most, is_fraction, plus, times
from stretchprices.slacks import Slacks
from stretchprices.stretches import Prices, all_stretches, check_code, check_rows, check_width, price

MOST_MEASURES = 8
MOST_CODES = 12


def fitting(rows, width, measures):
    """Prices by which each of the codes costs what is measured, or None."""
    _check_measures(rows, width, measures)
    return _fitted(rows, width, list(measures))


def clash(rows, width, measures):
    """Fractions of the codes that have no stretch together, but not 0 as their measures together, or None."""
    _check_measures(rows, width, measures)
    _, reason = solve(_equations(width, measures))
    if reason is None:
        return None
    # An equation is its measure times the measured bottom.
    return tuple([(reason.get(at, 0) * measured[1], 1) for at, (_, measured) in enumerate(measures)])


def sure(rows, width, measures, code):
    """The price of the code that the measures make sure, with weights that show it, or two prices that part it."""
    _check_measures(rows, width, measures)
    check_code(code, rows)
    prices = _fitted(rows, width, list(measures))
    if prices is None:
        raise Clash()
    weights = mixed([counted(measured, width) for measured, _ in measures], counted(code, width))
    if weights is None:
        more = plus(price(prices, code), (1, 1))
        return "open", prices, _fitted(rows, width, [*measures, (code, more)])
    return "sure", _worth(measures, weights), weights


def between(rows, width, measures, slack, code):
    """The least and the greatest price of the code by prices that fit up to the slack, or None if there are none."""
    _check_measures(rows, width, measures)
    _check_slack(slack)
    check_code(code, rows)
    slacks = Slacks(width, measures, slack)
    if not slacks.can_fit():
        raise Clash()
    return slacks.ends(counted(code, width))


def is_side(rows, width, measures, slack, code, bound, weights):
    """Whether weights of the measures show that the code costs at most the bound by prices that fit up to the slack."""
    _check_measures(rows, width, measures)
    _check_slack(slack)
    check_code(code, rows)
    check_fraction(bound)
    if not is_tuple(weights, len(measures)) or not all([is_fraction(weight) for weight in weights]):
        return False
    if not is_mixture([counted(measured, width) for measured, _ in measures], weights, counted(code, width)):
        return False
    total = _worth(measures, weights)
    for top, bottom in weights:
        total = plus(total, times(slack, (abs(top), bottom)))
    return is_at_most(total, bound)


def enough_codes(rows, width, codes):
    """The ascending list of the numbers of the codes whose stretches are no mixture of those of the ones ahead."""
    check_rows(rows)
    check_width(width)
    if not isinstance(codes, (list, tuple)) or len(codes) > MOST_CODES or not all([is_code(it, rows) for it in codes]):
        raise NoCodes()
    return independent([counted(code, width) for code in codes])


def _fitted(rows, width, measures):
    solution, _ = solve(_equations(width, measures))
    if solution is None:
        return None
    return Prices(rows, width, {stretch: solution.get(stretch, NOTHING) for stretch in all_stretches(rows, width)})


def _equations(width, measures):
    """What the measures say of the prices of stretches, in whole numbers."""
    found = []
    for code, (top, bottom) in measures:
        stood = counted(code, width)
        found.append(({stretch: bottom * stood[stretch] for stretch in stood}, top))
    return found


def _worth(measures, weights):
    """The measured fractions together, each times its weight."""
    total = NOTHING
    for (_, measured), weight in zip(measures, weights):
        total = plus(total, times(measured, weight))
    return total


def _check_measures(rows, width, measures):
    """Raise the errors for what is no rows, no width, or no measures over the rows."""
    check_rows(rows)
    check_width(width)
    if not isinstance(measures, (list, tuple)) or len(measures) > MOST_MEASURES:
        raise NoMeasures()
    if not all([is_tuple(it, 2) and is_code(it[0], rows) and is_fraction(it[1]) for it in measures]):
        raise NoMeasures()


def _check_slack(thing):
    """Raise the error for what is no fraction from 0 on."""
    if not is_fraction(thing) or thing[0] < 0:
        raise NoSlack()
