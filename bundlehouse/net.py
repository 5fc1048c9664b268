"""The net of parts: what they make, bring in and give, and the check that all of it fits together."""

from bundlehouse.errors import Endless, NoName, NoPart, NotGiven, Twice
from bundlehouse.rows import read_names


def check(parts):
    check_twice(parts)
    check_parts(parts)
    check_names(parts)
    check_given(parts)
    check_endless(parts)


def check_twice(parts):
    seen = {}
    for part, rows in parts:
        if part in seen:
            raise Twice(part, None)
        seen[part] = True
        check_rows_twice(part, rows)


def check_rows_twice(part, rows):
    seen = {}
    for number, row in enumerate(rows):
        for name in claims(row):
            if name in seen:
                raise Twice(part, number)
            seen[name] = True


# A part's own names and the names under which it gives don't get in each
# other's way, so each name goes with which of both it is.
def claims(row):
    if row[0] == "give":
        return (("given", row[2]),)
    return tuple([("own", name) for name in own_names(row)])


def check_parts(parts):
    there = dict(parts)
    for part, number, row in placed_rows(parts):
        if row[0] in ("bring", "ask") and (row[1] == part or row[1] not in there):
            raise NoPart(part, number)


def check_names(parts):
    owned = {}
    for part, number, row in placed_rows(parts):
        for name in own_names(row):
            owned[(part, name)] = True
    for part, number, row in placed_rows(parts):
        for name in used_names(row):
            if (part, name) not in owned:
                raise NoName(part, number)


def check_given(parts):
    owns = given_owns(parts)
    for part, number, row in placed_rows(parts):
        if row[0] == "bring":
            for given, own in row[2]:
                if (row[1], given) not in owns:
                    raise NotGiven(part, number)


def check_endless(parts):
    ring = first_ring(links(parts))
    if ring:
        raise Endless(ring)


# Each name leads to one other at most, so a way that comes back to itself has
# found a ring. What an earlier way went along leads to none.
def first_ring(onward):
    settled = {}
    for start in onward:
        way = {}
        here = start
        while here in onward and here not in settled and here not in way:
            way[here] = True
            here = onward[here]
        if here in way:
            names = list(way)
            return tuple(names[names.index(here):])
        settled.update(way)
    return ()


def placed_rows(parts):
    found = []
    for part, rows in parts:
        for number, row in enumerate(rows):
            found.append((part, number, row))
    return tuple(found)


def own_names(row):
    if row[0] in ("set", "take"):
        return (row[1],)
    if row[0] == "bring":
        return tuple([own for given, own in row[2]])
    return ()


def used_names(row):
    if row[0] == "give":
        return (row[1],)
    return tuple([name for word, name in read_names(row)])


# From (PART, GIVEN) to the OWN that the part gives under that name.
def given_owns(parts):
    owns = {}
    for part, number, row in placed_rows(parts):
        if row[0] == "give":
            owns[(part, row[2])] = row[1]
    return owns


# From (PART, OWN), brought in, to the same of the part that it comes from.
def links(parts):
    owns = given_owns(parts)
    onward = {}
    for part, number, row in placed_rows(parts):
        if row[0] == "bring":
            for given, own in row[2]:
                onward[(part, own)] = (row[1], owns[(row[1], given)])
    return onward


def maker(parts, part, name):
    return makers(parts)[(part, name)]


# From (PART, OWN), made or brought in, to its maker. Each link is gone along
# once: all names of a way get the maker at its end.
def makers(parts):
    found = made(parts)
    onward = links(parts)
    for start in onward:
        way = []
        here = start
        while here not in found:
            way.append(here)
            here = onward[here]
        for name in way:
            found[name] = found[here]
    return found


def made(parts):
    found = {}
    for part, number, row in placed_rows(parts):
        if row[0] in ("set", "take"):
            found[(part, row[1])] = (part, number)
    return found


def brings(parts, part):
    return named_parts(parts, part, "bring")


# From each part, in the parts' order, to those that it brings in.
def bringings(parts):
    onward = {}
    for part, rows in parts:
        onward[part] = brings(parts, part)
    return onward


def asks(parts, part):
    return named_parts(parts, part, "ask")


def named_parts(parts, part, kind):
    found = {}
    for row in dict(parts)[part]:
        if row[0] == kind:
            found[row[1]] = True
    return tuple(found)


# The parts to be begun wait with the next one last, so that those which a
# part brings in come ahead of those that waited before.
def order(parts, root):
    begun = {}
    waiting = [root]
    while waiting:
        part = waiting.pop()
        if part not in begun:
            begun[part] = True
            waiting.extend(list(reversed(brings(parts, part))))
    return tuple(begun)
