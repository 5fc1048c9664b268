"""Which rows are kept, and why: loud rows, and the makers of what kept rows read."""

from bundlehouse.knots import knot_of, knots, reach
from bundlehouse.net import makers, own_names
from bundlehouse.rows import read_names

WORK = ("set", "take", "say", "need", "ask")


def sure(parts, part, row, name):
    return name in sure_names(dict(parts)[part][:row], knot_of(parts, part))


def loud(parts, part, row):
    rows = dict(parts)[part]
    return is_loud(rows[row], sure_names(rows[:row], knot_of(parts, part)))


def is_loud(row, safe):
    if row[0] != "set":
        return True
    return any([name not in safe for word, name in read_names(row)])


def sure_names(above, knot):
    safe = {}
    for row in above:
        make_sure(safe, row, knot)
    return safe


# A part of the knot may have been begun ahead of this one and be amid its
# rows, so a bring row for it may go on before its names are given.
def make_sure(safe, row, knot):
    if row[0] == "bring" and row[1] in knot:
        return
    for name in own_names(row):
        safe[name] = True


def papers(parts, beginnings):
    rows = dict(parts)
    places = makers(parts)
    reasons = {}
    for place in loud_places(parts, beginnings):
        reasons[place] = None
    waiting = list(reasons)
    while waiting:
        reader = waiting.pop()
        for word, name in read_names(rows[reader[0]][reader[1]]):
            place = places[(reader[0], name)]
            if place not in reasons:
                reasons[place] = reader
                waiting.append(place)
    return tuple([(place[0], place[1], reason) for place, reason in reasons.items()])


def loud_places(parts, beginnings):
    reached = reach(parts, beginnings)
    rows = dict(parts)
    found = []
    for knot in knots(parts):
        for part in knot:
            if part in reached:
                found.extend([(part, number) for number in loud_numbers(rows[part], knot)])
    return found


def loud_numbers(rows, knot):
    safe = {}
    found = []
    for number, row in enumerate(rows):
        if row[0] in WORK and is_loud(row, safe):
            found.append(number)
        make_sure(safe, row, knot)
    return found
