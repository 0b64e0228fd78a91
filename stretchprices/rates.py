"""How the ticks of two machines go together: rates, one number for both, and codes that cross."""

from stretchprices.checks import check_amount
from stretchprices.machines import check_like, walked
from stretchprices.pairs import is_closed, pair_web, same_answers, weighed
from stretchprices.ratios import check_fraction, is_at_most, is_fraction, lowest, minus, plus, times
from stretchprices.ways import rising, run_of, summit


def rate(one, other):
    """The least rate at which the one machine's ticks stay up to some number, and a run and a round that need it."""
    check_like(one, other)
    return _greatest(one, other, _web(one, other))


def one_number(one, other):
    """A rate by which the two machines go together, with the least and the greatest difference, or two that do not."""
    check_like(one, other)
    web = _web(one, other)
    part, run, circle = _greatest(one, other, web)
    below = rising(_differences(web, part, -1), (0, 0))
    if below is not None:
        return "two", (run, circle), (run_of(below[0]), run_of(below[1]))
    least, _ = summit(_differences(web, part, -1), (0, 0))
    most, _ = summit(_differences(web, part, 1), (0, 0))
    return "number", part, lowest(-least, part[1]), lowest(most, part[1])


def crossing(one, other, amount):
    """Two long runs of which the first one is quicker in the one machine and slower in the other, or None."""
    check_like(one, other)
    check_amount(amount)
    found = one_number(one, other)
    if found[0] == "number":
        return None
    _, (run, circle), (second, second_circle) = found
    spent, other_spent = _spent(one, other, run, circle)
    second_spent, second_other = _spent(one, other, second, second_circle)
    # So many times each, the rounds differ by as much in the one machine as in the other one, the other way about.
    many = second_spent + second_other
    second_many = spent + other_spent
    begun = walked(one, 0, run)[0] - walked(one, 0, second)[0]
    other_begun = walked(other, 0, second)[0] - walked(other, 0, run)[0]
    lacking = amount - min(begun, other_begun)
    each = spent * second_other - second_spent * other_spent
    turns = max(-(-lacking // each), 0)
    return ((second, 1), (second_circle, turns * second_many)), ((run, 1), (circle, turns * many))


def is_rate_paper(one, other, rate, thing):
    """Whether it is a paper by which the one machine's ticks less rate times those of the other stay below a number."""
    check_like(one, other)
    check_fraction(rate)
    if not isinstance(thing, dict) or not all([is_fraction(worth) for worth in thing.values()]):
        return False
    if (0, 0) not in thing:
        return False
    return is_closed(one, other, same_answers(one.answers), thing,
                     lambda worth, spent, other_spent, behind: is_at_most(
                         plus(worth, minus((spent, 1), times(rate, (other_spent, 1)))), behind))


def _web(one, other):
    return pair_web(one, other, same_answers(one.answers), (0, 0))


def _greatest(one, other, web):
    """The greatest part of ticks of rounds to which runs lead, a run and a round that has it."""
    part = (0, 1)
    found = rising(_differences(web, part, 1), (0, 0))
    while found is not None:
        # A round that rises has a greater part; the greatest one is reached as there are finitely many.
        run, circle = run_of(found[0]), run_of(found[1])
        spent, other_spent = _spent(one, other, run, circle)
        part = lowest(spent, other_spent)
        found = rising(_differences(web, part, 1), (0, 0))
    return part, run, circle


def _differences(web, part, sign):
    """The web in which steps are worth the ticks less the part of the other ones, times the sign and the bottom."""
    top, bottom = part
    return weighed(web, lambda spent, other_spent: sign * (spent * bottom - other_spent * top))


def _spent(one, other, run, circle):
    """The ticks that the round takes behind the run in each of the two machines."""
    here = walked(one, 0, run)[1]
    there = walked(other, 0, run)[1]
    return walked(one, here, circle)[0], walked(other, there, circle)[0]
