"""Leads of one standing over another one, and of one machine over another one."""

from stretchprices.checks import check_integer
from stretchprices.machines import check_like, check_standing
from stretchprices.pairs import is_number_paper, lead_web, same_answers
from stretchprices.ways import rising, run_of, summit


def lead(machine, first, second):
    """The lead of one standing over another one and a run that has it, or a round by which it rises without end."""
    check_standing(machine, first)
    check_standing(machine, second)
    return _led(machine, machine, (first, second))


def ahead(one, other):
    """The same as lead for two machines, each from its standing 0."""
    check_like(one, other)
    return _led(one, other, (0, 0))


def _led(one, other, start):
    web = lead_web(one, other, same_answers(one.answers), start)
    found = rising(web, start)
    if found is not None:
        return "round", run_of(found[0]), run_of(found[1])
    number, labels = summit(web, start)
    return "most", number, run_of(labels)


def is_lead_paper(machine, first, second, bound, thing):
    """Whether it is a paper by which no run has more than the bound."""
    check_standing(machine, first)
    check_standing(machine, second)
    check_integer(bound)
    return is_number_paper(machine, machine, same_answers(machine.answers), (first, second), bound, thing)
