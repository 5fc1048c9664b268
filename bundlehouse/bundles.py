"""Bundles: thinned parts laid into packs, with where each row came from and what each root loads."""

from bundlehouse.cuts import cheapest, single, tight
from bundlehouse.groups import groups, roots
from bundlehouse.names import makers_names, renamed_row
from bundlehouse.net import order
from bundlehouse.thinned import thinned


def bundle(parts, beginnings, toll=4, way="cheapest"):
    told = thinned(parts, beginnings)
    thin = told[0]
    laid = packed_parts(thin, groups(thin, beginnings), toll, way)
    blocks = blocks_of(thin, dict(told[1]))
    packs = []
    origins = []
    for names in laid:
        placed = joined([blocks[part] for part in names])
        packs.append(tuple([row for row, origin in placed]))
        origins.append(tuple([origin for row, origin in placed]))
    return (tuple(packs), tuple(origins), loads_of_roots(thin, roots(thin, beginnings), laid))


# For each pack the names of its parts. Groups stand by their first parts, and
# a cut's packs by their first groups, so the packs stand by their first parts.
def packed_parts(parts, some, toll, way):
    laid = []
    for pack in cut_of(some, toll, way):
        names = joined([some[number][1] for number in pack])
        laid.append(tuple([part for part, rows in parts if part in names]))
    return laid


def cut_of(some, toll, way):
    if way == "tight":
        return tight(some)
    if way == "one":
        return single(some)
    return cheapest(some, toll)


def joined(lists):
    found = []
    for one in lists:
        found.extend(one)
    return found


# From each part to its rows in a pack, each with its origin.
def blocks_of(parts, numbers):
    news = makers_names(parts)
    found = {}
    for part, rows in parts:
        block = [(("part", part), (part, None))]
        for number, row in zip(numbers[part], rows):
            if row[0] != "give":
                block.append((packed_row(part, row, news), (part, number)))
        found[part] = block
    return found


def packed_row(part, row, news):
    if row[0] == "bring":
        return ("do", row[1])
    return renamed_row(part, row, news)


def loads_of_roots(parts, some, laid):
    return tuple([(root, packs_with(order(parts, root), laid)) for root in some])


def packs_with(some, laid):
    return tuple([pack for pack, names in enumerate(laid) if any([part in some for part in names])])
