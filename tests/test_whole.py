"""The whole promise: from each beginning the packs do what the parts do, and a map leads each word back."""

import unittest

from helper import (
    WAYS, WORK, all_cuts, figured, largest, led_back, line_of, parts_of, slow_kept, slow_loud, slow_maker, slow_pairs,
    some_beginnings, sound_parts, starts_in, told_numbers,
)

from bundlehouse.bundles import bundle
from bundlehouse.codes import coded, decoded
from bundlehouse.cuts import price, single, tight
from bundlehouse.groups import groups, roots
from bundlehouse.maps import back, map_of
from bundlehouse.net import check
from bundlehouse.papers import loud
from bundlehouse.play import play
from bundlehouse.rows import read_names, shown_row
from bundlehouse.run import run
from bundlehouse.texts import read, shown
from bundlehouse.thinned import thinned

# Beginnings, told numbers, the fault or None, parts.
WHOLE = (
    ("a", (4,), None, "part a, set z = 1, bring b, bring c g as x, say x, part b, set y = 1,"
                      "part c, set w = 5, take v, give v as g, give w as h"),
    ("ab", (4, 5, 6), None, "part a, take x, bring c g as y, say x - y, part b, take x, bring c g as x2, say x + x2,"
                            "part c, take x, give x as g"),
    ("a", (1, 2), None, "part a, take x, ask b when x, ask c, say x, part b, bring c, take x, say x, part c, say 9"),
    ("a", (0, 2), None, "part a, take x, ask b when x, ask c, say x, part b, bring c, take x, say x, part c, say 9"),
    ("ab", (4, 0), ("need", "c", 2, 0), "part a, bring c g as x, say x, part b, bring a, say 1,"
                                        "part c, set w = 5, take v, need v - 4, give v as g"),
    ("ab", (4, 0), ("early", "b", 2, 3), "part a, set w = 1, bring b, take x, give x as g,"
                                         "part b, set w = 1, bring a g as y, say 1 when y"),
    ("ab", (4, 0), ("early", "a", 2, 5), "part a, set w = 1, ask b, say 1 + 2 - x, set x = 7,"
                                         "part b, set x = 1, say x"),
)


def all_parts():
    found = sound_parts(120)
    return found + [figured(parts, seed) for seed, parts in enumerate(found[:60])] + sound_parts(12, 12)


def places_in(laid):
    packs, origins, loads = laid
    return {(k, number): origin for k, pack in enumerate(origins) for number, origin in enumerate(pack)}


def without_loads(told):
    return (tuple(deed for deed in told[0] if deed[0] != "load"), told[1])


class DoAlike(unittest.TestCase):
    def hold_alike(self, parts, beginnings, laid, numbers):
        """What the parts do from each beginning, where the packs do it, too."""
        faults = []
        for root in beginnings:
            told = run(parts, root, numbers)
            for ahead in (False, True):
                played = play(laid, root, numbers, ahead)
                self.assertEqual(led_back(without_loads(played), places_in(laid)), told)
                self.hold_loads(played[0])
            faults.append(told[1])
        return faults

    def hold_loads(self, trace):
        loaded = [deed[1] for deed in trace if deed[0] == "load"]
        self.assertEqual(len(set(loaded)), len(loaded))
        for k, deed in enumerate(trace):
            if deed[0] != "load":
                self.assertIn(("load", deed[2]), trace[:k])

    def test_each_case(self):
        for beginnings, numbers, fault, text in WHOLE:
            parts = parts_of(text)
            self.assertIsNone(check(parts))
            for way in WAYS:
                with self.subTest(text=text, numbers=numbers, way=way):
                    laid = bundle(parts, tuple(beginnings), 4, way)
                    self.assertEqual(self.hold_alike(parts, tuple(beginnings), laid, numbers)[0], fault)

    def test_by_chance(self):
        faults = []
        for seed, parts in enumerate(all_parts()):
            for beginnings in some_beginnings(parts)[::3] + [tuple(part for part, rows in parts)]:
                for way in WAYS:
                    laid = bundle(parts, beginnings, 3, way)
                    for numbers in told_numbers(seed):
                        faults.extend(self.hold_alike(parts, beginnings, laid, numbers))
        for kind in (None, "early", "need"):
            self.assertGreater([fault and fault[0] for fault in faults].count(kind), 100, kind)

    def test_from_a_part_that_is_asked_for(self):
        for seed, parts in enumerate(sound_parts(60)):
            for beginnings in some_beginnings(parts)[-2:]:
                thin, numbers = thinned(parts, beginnings)
                old = {(part, k): (part, number) for part, inner in numbers for k, number in enumerate(inner)}
                laid = bundle(parts, beginnings)
                for root in roots(thin, beginnings):
                    told = led_back(run(thin, root, (2, 0, 1)), old)
                    self.assertEqual(led_back(without_loads(play(laid, root, (2, 0, 1))), places_in(laid)), told)

    def test_most_parts_and_rows(self):
        parts = largest()
        beginnings = tuple(part for part, rows in parts[:12])
        for way in WAYS:
            faults = self.hold_alike(parts, beginnings, bundle(parts, beginnings, 4, way), (1, 2, 3, 4, 5, 6))
            self.assertEqual(faults, [None] * 12)

    def test_300_told_numbers(self):
        rows = [", ".join("take x{0}".format(k) for k in range(30 * part, 30 * part + 30)) for part in range(10)]
        parts = parts_of(", ".join("part p{0}, bring p{1}, {2}, say x{3}".format(k, k + 1, row, 30 * k)
                                   for k, row in enumerate(rows)) + ", part p10, say 1")
        numbers = tuple(10 ** 59 + k for k in range(300))
        for way in WAYS:
            laid = bundle(parts, ("p0", "p5"), 4, way)
            self.assertEqual(self.hold_alike(parts, ("p0", "p5"), laid, numbers), [None, None])


class LedBackByTheMap(unittest.TestCase):
    """Written, read, bundled, played; what is done is led back to the word of the text at which it is due."""

    def hold(self, text, beginnings, way, numbers):
        parts = read(text)
        self.assertEqual(shown(parts), text)
        laid = bundle(parts, beginnings, 3, way)
        leading = decoded(coded(map_of(parts, laid)))
        self.assertEqual(leading, map_of(parts, laid))
        faults = []
        for root in beginnings:
            told = run(parts, root, numbers)
            for ahead in (False, True):
                self.hold_deeds(text, laid, leading, without_loads(play(laid, root, numbers, ahead)), told)
            faults.append(told[1] and told[1][0])
        return faults

    def hold_deeds(self, text, laid, leading, played, told):
        self.assertEqual([deed[:2] for deed in played[0]], [deed[:2] for deed in told[0]])
        for (kind, value, pack, row), (same, number, part, old) in zip(played[0], told[0]):
            self.assertEqual(self.word_at(text, back(leading, pack, row, 0)), kind)
            self.assertEqual(back(leading, pack, row, 0), (line_of(text, (part, old)), 0))
        if told[1] is None:
            self.assertIsNone(played[1])
        else:
            kind, pack, row, word = played[1]
            same, part, number, there = told[1]
            self.assertEqual(kind, same)
            line = line_of(text, (part, number))
            place = back(leading, pack, row, starts_in(shown_row(laid[0][pack][row]))[word])
            self.assertEqual(place, (line, starts_in(text.split("\n")[line])[there]))
            self.assertEqual(self.word_at(text, place), text.split("\n")[line].split(" ")[there])

    def word_at(self, text, place):
        return text.split("\n")[place[0]][place[1]:].split(" ")[0]

    def test_each_case(self):
        for beginnings, numbers, fault, case in WHOLE:
            for way in WAYS:
                with self.subTest(case=case, way=way):
                    faults = self.hold(shown(parts_of(case)), tuple(beginnings), way, numbers)
                    self.assertEqual(faults[0], fault and fault[0])

    def test_by_chance(self):
        faults = []
        for seed, parts in enumerate(all_parts()[::2]):
            for beginnings in some_beginnings(parts)[::4] + [tuple(part for part, rows in parts)]:
                for way in WAYS:
                    faults.extend(self.hold(shown(parts), beginnings, way, told_numbers(seed)[-1]))
        for kind in (None, "early", "need"):
            self.assertGreater(faults.count(kind), 100, kind)

    def test_a_fault_at_a_name_that_is_longer_in_the_pack(self):
        text = shown(parts_of("part a, take x, bring b g as y, say 1 + x - y,"
                              "part b, bring a, need y + x, take x, give x as g, set y = 1"))
        self.assertEqual(self.hold(text, ("a", "b"), "one", (3,)), ["early", "early"])
        parts = read(text)
        laid = bundle(parts, ("a", "b"), 3, "one")
        trace, fault = play(laid, "b", (3,))
        self.assertEqual(shown_row(laid[0][0][fault[2]]), "say 1 + x - x2")
        self.assertEqual(fault, ("early", 0, 3, 5))
        self.assertEqual(back(map_of(parts, laid), 0, 3, 12), (3, 12))

    def test_each_word_of_a_pack(self):
        for parts in all_parts()[::3]:
            text = shown(parts)
            laid = bundle(parts, tuple(part for part, rows in parts))
            leading = decoded(coded(map_of(parts, laid)))
            for pack, (rows, origins) in enumerate(zip(laid[0], laid[1])):
                for number, (row, origin) in enumerate(zip(rows, origins)):
                    line = line_of(text, origin)
                    olds = starts_in(text.split("\n")[line])
                    for word, column in enumerate(starts_in(shown_row(row))):
                        self.assertEqual(back(leading, pack, number, column), (line, olds[word]))


class WhatLiesInPacks(unittest.TestCase):
    def hold(self, parts, beginnings, laid):
        rows = dict(parts)
        pairs = slow_pairs(parts)
        inside = [origin for pack in laid[1] for origin in pack if origin[1] is not None]
        self.assertEqual(len(set(inside)), len(inside))
        work = [place for place in inside if rows[place[0]][place[1]][0] in WORK]
        read = {slow_maker(parts, part, name) for part, number in work for word, name in read_names(rows[part][number])}
        for part, number in self.work_reached(parts, beginnings, pairs):
            if (part, number) in work:
                self.assertTrue(slow_loud(parts, pairs, part, number) or (part, number) in read)
            else:
                self.assertFalse(slow_loud(parts, pairs, part, number) or (part, number) in read)
                self.assertFalse(loud(parts, part, number))
        self.assertEqual(sorted(work), sorted(slow_kept(parts, beginnings)))

    def work_reached(self, parts, beginnings, pairs):
        reached = [part for part, rows in parts if any((one, part) in pairs for one in beginnings)]
        return [(part, number) for part in reached for number, row in enumerate(dict(parts)[part]) if row[0] in WORK]

    def test_by_chance(self):
        left_out = 0
        for parts in sound_parts(150):
            for beginnings in some_beginnings(parts)[::2]:
                for way in WAYS:
                    laid = bundle(parts, beginnings, 4, way)
                    self.hold(parts, beginnings, laid)
                left_out += len(self.work_reached(parts, beginnings, slow_pairs(parts))) > len(
                    [origin for pack in laid[1] for origin in pack if origin[1] is not None])
        self.assertGreater(left_out, 50)

    def test_each_part_lies_in_one_pack(self):
        for parts in sound_parts(60):
            for beginnings in some_beginnings(parts):
                thin = thinned(parts, beginnings)[0]
                for way in WAYS:
                    packs = bundle(parts, beginnings, 4, way)[0]
                    heads = [row[1] for pack in packs for row in pack if row[0] == "part"]
                    self.assertEqual(sorted(heads), sorted(part for part, rows in thin))

    def test_each_name_is_made_once(self):
        for parts in sound_parts(60):
            for beginnings in some_beginnings(parts):
                packs = bundle(parts, beginnings)[0]
                made = [row[1] for pack in packs for row in pack if row[0] in ("set", "take")]
                self.assertEqual(len(set(made)), len(made))


class Packed(unittest.TestCase):
    def test_tightly_a_root_loads_just_the_blocks_that_it_comes_to(self):
        for parts in sound_parts(80):
            for beginnings in some_beginnings(parts):
                pairs = slow_pairs(thinned(parts, beginnings)[0], ("bring",))
                packs, origins, loads = bundle(parts, beginnings, 4, "tight")
                for root, numbers in loads:
                    blocks = [row[1] for number in numbers for row in packs[number] if row[0] == "part"]
                    self.assertEqual(sorted(blocks), sorted(other for one, other in pairs if one == root))

    def test_in_the_cheapest_way_no_other_has_a_lower_price(self):
        dearer = []
        for parts in sound_parts(80) + sound_parts(8, 10):
            for beginnings in some_beginnings(parts)[-4:]:
                some = groups(thinned(parts, beginnings)[0], beginnings)
                for toll in (0, 2, 4, 9):
                    least = self.price_of(bundle(parts, beginnings, toll, "cheapest"), toll)
                    self.assertLessEqual(least, self.price_of(bundle(parts, beginnings, toll, "tight"), toll))
                    self.assertLessEqual(least, self.price_of(bundle(parts, beginnings, toll, "one"), toll))
                    if len(some) <= 6:
                        cuts = all_cuts(tuple(range(len(some))))
                        self.assertEqual(least, min(price(some, toll, cut) for cut in cuts))
                        dearer.append(least < min(price(some, toll, cut) for cut in (tight(some), single(some))))
        self.assertGreater(dearer.count(True), 20)

    def price_of(self, laid, toll):
        """What loading costs: each root that a part of a pack has, times the toll and the pack's rows."""
        packs, origins, loads = laid
        return sum((toll + len(packs[number])) for root, numbers in loads for number in numbers)


if __name__ == "__main__":
    unittest.main()
