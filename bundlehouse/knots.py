"""Which parts reach which, and the knots of parts that reach one another."""

from bundlehouse.net import asks, brings


def reach(parts, some):
    found = spread(steps(parts), some)
    return tuple([part for part, rows in parts if part in found])


def knots(parts):
    return knots_in(steps(parts))


def knots_in(onward):
    backward = turned(onward)
    found = []
    for part in onward:
        knot = knot_around(onward, backward, part)
        # Each of its parts finds the knot; its first one tells it.
        if knot[0] == part:
            found.append(knot)
    return tuple(found)


def knot_of(parts, part):
    onward = steps(parts)
    return knot_around(onward, turned(onward), part)


def knot_around(onward, backward, part):
    ahead = spread(onward, (part,))
    behind = spread(backward, (part,))
    return tuple([other for other in onward if other in ahead and other in behind])


# From each part, in the parts' order, to those that it brings in or asks for.
def steps(parts):
    onward = {}
    for part, rows in parts:
        onward[part] = brings(parts, part) + asks(parts, part)
    return onward


def turned(onward):
    backward = {}
    for part in onward:
        backward[part] = []
    for part in onward:
        for other in onward[part]:
            backward[other].append(part)
    return backward


def spread(onward, some):
    found = {}
    waiting = list(some)
    while waiting:
        part = waiting.pop()
        if part not in found:
            found[part] = True
            waiting.extend(list(onward[part]))
    return found
