"""The earliest runs that lead somewhere."""


def earliest(start, steps):
    """A dict from all that runs from the start lead to, to the earliest runs that lead there, in their order.

    steps(here) is the list of the triples (row, answer, there) of what leads on from here.
    """
    found = {start: ("", ())}
    layer = [start]
    while layer:
        fresh = {}
        for here in layer:
            code, told = found[here]
            for row, answer, there in steps(here):
                run = (code + row, told + (answer,))
                # All codes of a layer are of one length, so that less as a tuple means earlier.
                if there not in found and (there not in fresh or run < fresh[there]):
                    fresh[there] = run
        layer = sorted(fresh, key=lambda end: fresh[end])
        for there in layer:
            found[there] = fresh[there]
    return found
