"""Thinned parts: what is left of parts where only kept rows, and what leads to them, stay."""

from bundlehouse.knots import reach, spread, turned
from bundlehouse.net import bringings, makers
from bundlehouse.papers import papers


def live(parts, beginnings):
    return live_parts(parts, beginnings, kept_places(parts, beginnings))


def kept_places(parts, beginnings):
    kept = {}
    for part, number, reason in papers(parts, beginnings):
        kept[(part, number)] = True
    return kept


# A part that only asks for one with a kept row is not live by that, so the
# way back from the kept rows is one of bring rows alone.
def live_parts(parts, beginnings, kept):
    found = spread(turned(bringings(parts)), [part for part, number in kept])
    return tuple([part for part in reach(parts, beginnings) if part in found])


def thinned(parts, beginnings):
    kept = kept_places(parts, beginnings)
    alive = live_parts(parts, beginnings, kept)
    staying = alive + beginnings + asked_parts(parts, kept)
    names = kept_names(parts, kept)
    thin = []
    numbers = []
    for part, rows in parts:
        if part in staying:
            stay = staying_rows(part, rows, kept, alive, names)
            thin.append((part, tuple([row for number, row in stay])))
            numbers.append((part, tuple([number for number, row in stay])))
    return (tuple(thin), tuple(numbers))


def asked_parts(parts, kept):
    rows = dict(parts)
    found = [rows[part][number] for part, number in kept]
    return tuple([row[1] for row in found if row[0] == "ask"])


# All (PART, OWN), made or brought in, whose maker is kept.
def kept_names(parts, kept):
    found = {}
    for name, place in makers(parts).items():
        if place in kept:
            found[name] = True
    return found


def staying_rows(part, rows, kept, alive, names):
    found = []
    for number, row in enumerate(rows):
        if row[0] == "bring" and row[1] in alive:
            found.append((number, thin_bring(part, row, names)))
        elif (part, number) in kept or (row[0] == "give" and (part, row[1]) in names):
            found.append((number, row))
    return found


def thin_bring(part, row, names):
    pairs = [(given, own) for given, own in row[2] if (part, own) in names]
    return ("bring", row[1], tuple(pairs))
