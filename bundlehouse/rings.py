"""Rings of bringings-in, and the fewest without which none is left."""

from bundlehouse.cuts import numbers_in
from bundlehouse.errors import TooMany
from bundlehouse.knots import knots_in
from bundlehouse.net import bringings

MOST_PARTS = 8


def tangles(parts):
    return knots_in(bringings(parts))


def ring_table(parts, tangle):
    return tuple([count for count, last in best_lasts(steps_within(parts, tangle))])


# For each part of a tangle, by number, the place in the table of those parts
# of the tangle that it brings in.
def steps_within(parts, tangle):
    if len(tangle) > MOST_PARTS:
        raise TooMany(tangle)
    onward = bringings(parts)
    return [place_of(tangle, onward[part]) for part in tangle]


def place_of(tangle, some):
    return sum([1 << number for number, part in enumerate(tangle) if part in some])


# Parts without a ring can be laid in a line so that none brings in one ahead
# of it; so what is to be cut are the bringings-in against some line's order.
# At each place of the table a pair: the fewest, and the number of the part that
# is the last in the line then. What it brings in is all ahead of it.
def best_lasts(steps):
    best = [(0, 0)]
    for place in range(1, 1 << len(steps)):
        best.append(min([(count_with_last(steps, best, place, last), last) for last in numbers_in(place)]))
    return best


def count_with_last(steps, best, place, last):
    return best[place - (1 << last)][0] + len(numbers_in(steps[last] & place))


def fewest(parts):
    cut = {}
    for tangle in tangles(parts):
        for pair in fewest_within(parts, tangle):
            cut[pair] = True
    found = []
    for part, rows in parts:
        found.extend([(part, other) for other, inner in parts if (part, other) in cut])
    return tuple(found)


def fewest_within(parts, tangle):
    steps = steps_within(parts, tangle)
    best = best_lasts(steps)
    left = len(best) - 1
    cut = []
    while left > 0:
        last = best[left][1]
        cut.extend([(tangle[last], tangle[number]) for number in numbers_in(steps[last] & left)])
        left -= 1 << last
    return cut
