import functools
import unittest

from helper import (
    WAYS, figured, hold_untouched, kinds, largest, loads_of, origins_of, packs_of, parts_of, slow_pairs,
    some_beginnings, sound_parts,
)

from bundlehouse.bundles import bundle
from bundlehouse.cuts import cheapest, price, single, tight
from bundlehouse.groups import groups, roots
from bundlehouse.names import renamed
from bundlehouse.net import check
from bundlehouse.thinned import thinned

# Two groups laid together, their parts mixed: a has fewer rows than the toll, b more.
MIXED = (
    "ab", "cheapest",
    "part d, say 4, part a, do c, say 1, part c, do d, say 3 | part b, say 2, say 2, say 2, say 2, do c",
    "d d0 a a0 a1 c c0 c1 | b b0 b1 b2 b3 b4", "a 0, b 0 1",
    "part d, say 4, part a, bring c, say 1, part b, say 2, say 2, say 2, say 2, bring c, part c, bring d, say 3",
)

# Beginnings, way, packs, origins, loads, parts; the toll is 4.
BUNDLES = (
    # a part without rows has its head
    ("a", "tight", "part a", "a", "a 0", "part a"),
    ("a", "one", "part a", "a", "a 0", "part a"),
    ("a", "cheapest", "part a", "a", "a 0", "part a"),
    # each kind of row: do for bring, none for give
    ("a", "tight", "part a, do b, take x, set y = x, need y, ask c, say y when x, part b, take z | part c",
     "a a0 a1 a2 a3 a4 a6 b b0 | c", "a 0, c 1",
     "part a, bring b g as w, take x, set y = x, need y, ask c, give y as g, say y when x,"
     "part b, take z, give z as g, part c"),
    # a bring row that stands twice
    ("a", "tight", "part a, do b, say 1, do b, part b, say 2", "a a0 a1 a2 b b0", "a 0",
     "part a, bring b, say 1, bring b, part b, say 2"),
    # names changed to the new names of the thinned parts: row 0 of b does not stand in the way
    ("a", "tight", "part a, do b, take x, say x - x2, part b, take x2", "a a0 a1 a2 b b1", "a 0",
     "part a, bring b g as y, take x, say x - y, part b, set x2 = 1, take x, give x as g"),
    ("a", "tight", "part a, do b, take x, say x - x3, part b, take x2, take x3", "a a0 a1 a2 b b0 b1", "a 0",
     "part a, bring b g as y, take x, say x - y, part b, take x2, take x, give x as g"),
    # brought in through several parts, read behind when, in several packs
    ("ab", "tight", "part a, do c, need x, ask b when x | part b, do c, say x when x | part c, do d, part d, take x",
     "a a0 a1 a2 | b b0 b1 | c c0 d d0", "a 0 2, b 1 2",
     "part a, bring c h as y, need y, ask b when y, part b, bring c h as z, say z when z,"
     "part c, bring d g as w, give w as h, part d, take x, give x as g"),
    # rows and pairs that are left out: numbered as in the parts handed in
    ("a", "one", "part a, do c, say 1, part c, say 2", "a a2 a4 c c1", "a 0",
     "part a, set x = 1, bring b, bring c g as y, set z = y, say 1, part b, set x = 1, part c, set x = 2, say 2,"
     "give x as g"),
    # a part that is thinned away, ahead of others and in a ring
    ("b", "one", "part b, say 1", "b b1", "b 0",
     "part a, say 2, part b, bring c, say 1, part c, bring d, part d, bring c"),
    ("ab", "tight", "part a, say 1 | part b", "a a1 | b", "a 0, b 1", "part a, bring b, say 1, part b, set x = 1"),
    # a part that is asked for stays, though nothing in it does
    ("a", "tight", "part a, ask b | part b", "a a0 | b", "a 0, b 1", "part a, ask b, part b, set x = 1"),
    # packs by their first parts, parts within a pack in the parts' order
    ("ba", "tight", "part c, say 3, part e, do c | part a, do e | part d, say 4, part b, do d, do e",
     "c c0 e e0 | a a0 | d d0 b b0 b1", "b 0 2, a 0 1",
     "part c, say 3, part a, bring e, part d, say 4, part b, bring d, bring e, part e, bring c"),
    ("ba", "one", "part c, say 3, part a, do e, part d, say 4, part b, do d, do e, part e, do c",
     "c c0 a a0 d d0 b b0 b1 e e0", "b 0, a 0",
     "part c, say 3, part a, bring e, part d, say 4, part b, bring d, bring e, part e, bring c"),
    MIXED,
    # loads for each root in order: the beginnings in theirs, then those asked for
    ("ca", "tight", "part a, say 1 | part b, say 2 | part c, ask d, ask b | part d, do b",
     "a a0 | b b0 | c c0 c1 | d d0", "c 2, a 0, b 1, d 1 3",
     "part a, say 1, part b, say 2, part c, ask d, ask b, part d, bring b"),
    # a root that asks loads what it comes to by bring rows alone
    ("a", "tight", "part a, ask b, do c | part b, do d, part d, do c | part c, say 1", "a a0 a1 | b b0 d d0 | c c0",
     "a 0 2, b 1 2", "part a, ask b, bring c, part b, bring d, part c, say 1, part d, bring c"),
    # only asked for by a part that nobody reaches, so no root
    ("a", "tight", "part a, do b, part b, say 1", "a a0 b b0", "a 0", "part a, bring b, part b, say 1, part c, ask b"),
    # in a ring
    ("ab", "tight", "part a, do b, say 1, part b, do a, say 2", "a a0 a1 b b0 b1", "a 0, b 0",
     "part a, bring b, say 1, part b, bring a, say 2"),
)


def says(count):
    return ", say 1" * count


# Parts whose cheapest cut is another one below the toll 4, or above it, than at 4.
def near_toll(size):
    """Two beginnings come to p, a third one to q alone, which the others come to, too."""
    return parts_of(
        "part a, bring p, bring q" + says(30) + ", part b, bring p, bring q" + says(30) +
        ", part c, bring q" + says(30) + ", part p" + says(size - 1) + ", part q" + says(2))


renamed_once = functools.lru_cache(None)(renamed)


def slow_block(thin, numbers, part):
    block = [(("part", part), (part, None))]
    for number, row in enumerate(dict(thin)[part]):
        old = dict(numbers)[part][number]
        if row[0] == "bring":
            block.append((("do", row[1]), (part, old)))
        elif row[0] != "give":
            block.append((renamed_once(thin, part, number), (part, old)))
    return block


def slow_bundle(parts, beginnings, toll, way):
    thin, numbers = thinned(parts, beginnings)
    some = groups(thin, beginnings)
    cut = {"tight": tight(some), "one": single(some), "cheapest": cheapest(some, toll)}[way]
    pairs = slow_pairs(thin, ("bring",))
    place = {part: k for k, (part, rows) in enumerate(thin)}
    named = [sorted((part for number in pack for part in some[number][1]), key=place.get) for pack in cut]
    named.sort(key=lambda names: place[names[0]])
    blocks = [[pair for part in names for pair in slow_block(thin, numbers, part)] for names in named]
    loads = []
    for root in roots(thin, beginnings):
        packs = [k for k, names in enumerate(named) if [part for part in names if (root, part) in pairs]]
        loads.append((root, tuple(packs)))
    return (
        tuple(tuple(row for row, origin in block) for block in blocks),
        tuple(tuple(origin for row, origin in block) for block in blocks),
        tuple(loads),
    )


def cut_told(parts, beginnings, told):
    """The cut of the groups by which the packs were made."""
    some = groups(thinned(parts, beginnings)[0], beginnings)
    group = {part: number for number, (tint, names, size) in enumerate(some) for part in names}
    return tuple(tuple(sorted({group[row[1]] for row in pack if row[0] == "part"})) for pack in told[0])


class Bundles(unittest.TestCase):
    def hold_kinds(self, told):
        packs, origins, loads = told
        self.assertEqual([type(value) for value in (told,) + told], [tuple] * 4)
        self.assertEqual([len(pack) for pack in packs], [len(pack) for pack in origins])
        for pack, inner in zip(packs, origins):
            self.assertIs(type(pack), tuple)
            self.assertIs(type(inner), tuple)
            for row, origin in zip(pack, inner):
                self.assertIn(row[0], ("part", "do", "set", "take", "say", "need", "ask"))
                self.assertEqual(kinds(origin), (str, type(None) if row[0] == "part" else int))
                self.hold_row(row)
        for root, numbers in loads:
            self.assertEqual(kinds((root, numbers)), (str, (int,) * len(numbers)))

    def hold_row(self, row):
        self.assertIs(type(row), tuple)
        self.assertTrue(all(type(value) in (str, tuple, type(None)) for value in row))
        for terms in [value for value in row if type(value) is tuple]:
            self.assertTrue(all(kinds(term) in ((int, int), (int, str)) for term in terms))

    def test_each_case(self):
        for beginnings, way, packs, origins, loads, text in BUNDLES:
            with self.subTest(text=text, beginnings=beginnings, way=way):
                parts = parts_of(text)
                self.assertIsNone(check(parts))
                told = bundle(parts, tuple(beginnings), 4, way)
                self.assertEqual(told, (packs_of(packs), origins_of(origins), loads_of(loads)))
                self.assertEqual(told, slow_bundle(parts, tuple(beginnings), 4, way))
                self.hold_kinds(told)

    def test_toll_and_way_by_name(self):
        parts = parts_of(MIXED[-1])
        for way in WAYS:
            told = bundle(parts, ("a", "b"), 3, way)
            self.assertEqual(bundle(parts, ("a", "b"), way=way, toll=3), told)
            self.assertEqual(bundle(parts, ("a", "b"), way=way), bundle(parts, ("a", "b"), 4, way))

    def test_the_way_is_cheapest_if_it_is_not_told(self):
        parts = parts_of(MIXED[-1])
        told = bundle(parts, ("a", "b"))
        self.assertEqual(told, bundle(parts, ("a", "b"), 4, "cheapest"))
        self.assertEqual(told[0], packs_of(MIXED[2]))
        for way in ("tight", "one"):
            self.assertNotEqual(told, bundle(parts, ("a", "b"), 4, way))

    def test_the_toll_is_4_if_it_is_not_told(self):
        for size, other in ((7, 3), (9, 5)):
            parts = near_toll(size)
            told = bundle(parts, ("a", "b", "c"))
            self.assertEqual(told, bundle(parts, ("a", "b", "c"), 4))
            self.assertNotEqual(told, bundle(parts, ("a", "b", "c"), other))

    def test_the_toll_counts_for_the_cheapest_alone(self):
        parts = parts_of(MIXED[-1])
        for way in ("tight", "one"):
            self.assertEqual(bundle(parts, ("a", "b"), 0, way), bundle(parts, ("a", "b"), 10 ** 59, way))
        self.assertEqual(bundle(parts, ("a", "b"), 0), bundle(parts, ("a", "b"), 0, "tight"))
        self.assertEqual(bundle(parts, ("a", "b"), 10 ** 59), bundle(parts, ("a", "b"), 0, "one"))

    def test_new_names_of_more_than_eight_signs(self):
        parts = parts_of("part a, bring b, take abcdefgh, part b, take abcdefgh, say abcdefgh when abcdefgh")
        told = bundle(parts, ("a",))
        self.assertEqual(told[0][0][4:], (("take", "abcdefgh2"), ("say", ((1, "abcdefgh2"),), "abcdefgh2")))

    def test_by_chance(self):
        counts = []
        found = sound_parts(60)
        found += [figured(parts, seed) for seed, parts in enumerate(found[:30])] + sound_parts(6, 14)
        for parts in found:
            for beginnings in some_beginnings(parts):
                for way in WAYS:
                    told = bundle(parts, beginnings[:12], 3, way)
                    self.assertEqual(told, slow_bundle(parts, beginnings[:12], 3, way))
                    self.hold_kinds(told)
                    counts.append((way, min(len(told[0]), 4)))
        for way in ("tight", "cheapest"):
            for count in (1, 2, 3, 4):
                self.assertGreater(counts.count((way, count)), 20, (way, count))

    def test_the_cut_is_the_one_of_the_way(self):
        for parts in sound_parts(25):
            for beginnings in some_beginnings(parts):
                some = groups(thinned(parts, beginnings)[0], beginnings)
                for toll in (0, 1, 4, 30):
                    self.assertEqual(cut_told(parts, beginnings, bundle(parts, beginnings, toll, "tight")), tight(some))
                    self.assertEqual(cut_told(parts, beginnings, bundle(parts, beginnings, toll, "one")), single(some))
                    told = cut_told(parts, beginnings, bundle(parts, beginnings, toll, "cheapest"))
                    self.assertEqual(price(some, toll, told), price(some, toll, cheapest(some, toll)))

    def test_more_than_eight_groups(self):
        first = ", ".join("part p{0}, bring q, say {0}".format(k) for k in range(9))
        parts = parts_of(first + ", part q, say 7, say 8")
        beginnings = tuple("p" + str(k) for k in range(9))
        apart, one = bundle(parts, beginnings, 4, "tight"), bundle(parts, beginnings, 4, "one")
        self.assertEqual([len(apart[0]), len(one[0])], [10, 1])
        self.assertEqual(bundle(parts, beginnings, 4), apart)
        self.assertEqual(bundle(parts, beginnings, 10 ** 59), one)
        self.assertEqual(apart[2][3], ("p3", (3, 9)))
        self.assertEqual(one[2][3], ("p3", (0,)))

    def test_most_parts_and_rows(self):
        parts = largest()
        beginnings = tuple(part for part, rows in parts[:12])
        for way in WAYS:
            told = bundle(parts, beginnings, 4, way)
            self.assertEqual(told, slow_bundle(parts, beginnings, 4, way))
            self.assertEqual(sum(len(pack) for pack in told[0]), 24 * 35)

    def test_of_thinned_parts(self):
        for parts in sound_parts(60):
            for beginnings in some_beginnings(parts):
                thin, numbers = thinned(parts, beginnings)
                packs, origins, loads = bundle(parts, beginnings)
                again = bundle(thin, beginnings)
                self.assertEqual((again[0], again[2]), (packs, loads))
                old = {(part, k): (part, number) for part, inner in numbers for k, number in enumerate(inner)}
                led = tuple(tuple(old.get(origin, origin) for origin in pack) for pack in again[1])
                self.assertEqual(led, origins)


def told(parts):
    names = tuple(part for part, rows in parts)
    return [bundle(parts, names[k:], 4, way) for k in range(len(names)) for way in WAYS]


class HandedIn(unittest.TestCase):
    def test_nothing_handed_in_is_changed_and_nothing_else_counts(self):
        hold_untouched(self, told)


if __name__ == "__main__":
    unittest.main()
