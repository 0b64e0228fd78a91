"""How many stretches of each kind codes have, and codes whose stretches are mixed of those of other codes."""

from stretchprices.equations import solve
from stretchprices.ratios import NOTHING, plus, times
from stretchprices.stretches import stretch_at


def counted(code, width):
    """A dict from the stretches of a code to how often each of them stands in it."""
    found = {}
    for end in range(1, len(code) + 1):
        stretch = stretch_at(code, end, width)
        found[stretch] = found.get(stretch, 0) + 1
    return found


def mixed(parts, whole):
    """A tuple of fractions, one for each part, with which the parts' stretches are together the whole's, or None.

    The parts and the whole are dicts from stretches to how often they stand there.
    """
    sums = {stretch: {} for stretch in whole}
    for number, part in enumerate(parts):
        for stretch in part:
            sums.setdefault(stretch, {})[number] = part[stretch]
    weights, _ = solve([(sums[stretch], whole.get(stretch, 0)) for stretch in sums])
    if weights is None:
        return None
    return tuple([weights.get(number, NOTHING) for number in range(len(parts))])


def is_mixture(parts, weights, whole):
    """Whether the parts' stretches, each part's times its weight, are together just the whole's."""
    found = {stretch: NOTHING for stretch in whole}
    for part, weight in zip(parts, weights):
        for stretch in part:
            found[stretch] = plus(found.get(stretch, NOTHING), times((part[stretch], 1), weight))
    return all([found[stretch] == (whole.get(stretch, 0), 1) for stretch in found])


def independent(parts):
    """The ascending list of the numbers of the parts that are no mixture of those ahead."""
    chosen = []
    for number, part in enumerate(parts):
        if mixed([parts[other] for other in chosen], part) is None:
            chosen.append(number)
    return chosen
