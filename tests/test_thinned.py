import unittest

from helper import (
    WORK, hold_untouched, kinds, largest, led_back, parts_of, slow_kept, slow_maker, slow_pairs, some_beginnings,
    sound_parts, told_numbers,
)

from bundlehouse.net import check
from bundlehouse.papers import papers
from bundlehouse.run import run
from bundlehouse.thinned import live, thinned

# Beginnings, the live parts, parts.
LIVE = (
    ("a", "", "part a"),
    ("a", "", "part a, set x = 1, give x as g"),
    ("a", "a", "part a, say 1"),
    ("a", "a", "part a, take x"),
    ("a", "a", "part a, need 1"),
    ("a", "a", "part a, set x = y, set y = 1"),
    # a part that comes to a kept row by bring rows, through one part and through several
    ("a", "ab", "part a, bring b, part b, say 1"),
    ("a", "abcd", "part a, bring b, part b, bring c, part c, bring d, part d, say 1"),
    ("a", "ac", "part a, bring b, bring c, part b, set x = 1, part c, say 1"),
    ("a", "ab", "part a, bring b, part b, say 1, bring c, part c, set x = 1"),
    ("a", "a", "part a, bring b, say 1, part b, bring c, part c, set x = 1"),
    ("a", "", "part a, bring b, part b, bring c, part c, set x = 1"),
    # in a ring
    ("a", "ab", "part a, bring b, part b, bring a, say 1"),
    ("a", "abc", "part a, bring b, part b, bring c, part c, bring a, say 1"),
    ("b", "abc", "part a, bring b, part b, bring c, part c, bring a, say 1"),
    ("a", "abc", "part a, bring b, part b, bring c, part c, bring b, say 1"),
    ("a", "", "part a, bring b, part b, bring c, part c, bring a, set x = 1"),
    # a kept row of its own, or none, where another part asks for it: asked for, it is not live by that
    ("a", "a", "part a, ask b, part b, set x = 1"),
    ("a", "a", "part a, ask b, part b, bring c, part c, set x = 1"),
    ("a", "ab", "part a, ask b, part b, say 1"),
    ("a", "abc", "part a, ask b, part b, bring c, part c, say 1"),
    # one that asks is live by its ask row, which is loud
    ("a", "ab", "part a, bring b, part b, ask c, part c"),
    ("a", "ab", "part a, bring b, part b, ask a"),
    # a maker that is kept makes its part live, and those through which its name is brought in
    ("a", "abc", "part a, bring b g as x, say x, part b, bring c h as y, give y as g,"
                 "part c, set z = 1, give z as h"),
    ("a", "a", "part a, bring b g as x, say 1, part b, bring c h as y, give y as g, part c, set z = 1, give z as h"),
    # outside the reach, with a kept row's form or coming to one
    ("b", "b", "part a, bring b, say 1, part b, say 2"),
    ("b", "b", "part a, bring b, part b, say 2"),
    ("b", "b", "part a, ask b, part b, say 2"),
    ("b", "", "part a, bring b, say 1, part b, set x = 1, part c, say 3"),
    ("a", "ab", "part a, say 1, ask b, part b, say 2, part c, bring b, say 3"),
    # the parts' order, whatever the order of the beginnings
    ("ca", "abcd", "part d, say 4, part a, bring b, part b, say 1, part c, bring d"),
    ("ac", "abcd", "part d, say 4, part a, bring b, part b, say 1, part c, bring d"),
    ("bac", "ac", "part c, bring a, part b, part a, say 1"),
)

# Beginnings, the numbers, the thinned parts, parts.
THINNED = (
    # a beginning without a kept row stays, without rows
    ("a", "a", "part a", "part a"),
    ("a", "a", "part a", "part a, set x = 1, give x as g"),
    ("a", "a", "part a", "part a, bring b g as x, set y = x, give y as h, part b, set x = 1, give x as g"),
    ("ba", "a, b", "part a, part b", "part a, set x = 1, part b, set x = 2"),
    # rows of work that are kept and that are not
    ("a", "a 0", "part a, say 1", "part a, say 1"),
    ("a", "a 1", "part a, say 1", "part a, set x = 1, say 1"),
    ("a", "a 0 2", "part a, set x = 1, say x", "part a, set x = 1, set y = x, say x, set z = x"),
    ("a", "a 0 1 2", "part a, set x = 1, set y = x, say y", "part a, set x = 1, set y = x, say y"),
    ("a", "a 0 2 3 4", "part a, take x, need 1, say 3 - x + x when x, take y",
     "part a, take x, set z = x, need 1, say 3 - x + x when x, take y"),
    ("a", "a 0 1", "part a, set x = y, set y = 1", "part a, set x = y, set y = 1, set z = 2"),
    # bring rows for live parts and for others
    ("a", "a 0, b 0", "part a, bring b, part b, say 1", "part a, bring b, part b, say 1"),
    ("a", "a 1, c 1", "part a, bring c, part c, say 1",
     "part a, bring b, bring c, part b, set x = 1, part c, set y = 1, say 1"),
    ("a", "a 0 2, b 0", "part a, bring b, bring b, part b, say 1",
     "part a, bring b, set x = 1, bring b, part b, say 1, set x = 1"),
    ("a", "a 1", "part a, say 1", "part a, bring b, say 1, part b, bring c, part c, bring b"),
    # pairs whose maker is kept and pairs whose maker is not, give rows likewise
    ("a", "a 0 1, b 1 3", "part a, bring b h as y, say y, part b, set y = 2, give y as h",
     "part a, bring b g as x h as y, say y, part b, set x = 1, set y = 2, give x as g, give y as h"),
    ("a", "a 0 1, b 0 2", "part a, bring b g as x g as z, say x, part b, set x = 1, give x as g",
     "part a, bring b g as x h as y g as z, say x, part b, set x = 1, set y = 2, give x as g, give y as h"),
    ("a", "a 0 2, b 1", "part a, bring b, say 1, part b, say 2",
     "part a, bring b g as x, set y = x, say 1, part b, set x = 1, say 2, give x as g"),
    # a loud maker is kept though nobody reads it, so its pairs and give rows stay
    ("a", "a 0, b 0 1 2", "part a, bring b g as y, part b, take x, give x as g, give x as h",
     "part a, bring b g as y, part b, take x, give x as g, give x as h"),
    # through several parts
    ("a", "a 0 1, b 0 1, c 0 2", "part a, bring b g as x, say x, part b, bring c h as y, give y as g,"
     "part c, set z = 1, give z as h",
     "part a, bring b g as x, say x, part b, bring c h as y i as w, give y as g, give w as k,"
     "part c, set z = 1, set w = 2, give z as h, give w as i"),
    # a give row above its maker, and of a name that is brought in
    ("a", "a 0 1, b 0 1", "part a, give x as g, bring b h as x, part b, give y as h, take y",
     "part a, give x as g, bring b h as x, part b, give y as h, take y"),
    # a part that a kept ask row names stays, without rows, where it is not live
    ("a", "a 0, b", "part a, ask b, part b", "part a, ask b, part b, set x = 1"),
    ("a", "a 0 1, b", "part a, set x = 0, ask b when x, part b",
     "part a, set x = 0, ask b when x, set y = 1, part b, bring c, set x = 1, part c, set x = 1"),
    ("a", "b, a 0", "part b, part a, ask b", "part b, set x = 1, part a, ask b"),
    ("a", "a 0, b 1", "part a, ask b, part b, say 1", "part a, ask b, part b, set x = 1, say 1"),
    # the ask row is kept; a bring row for the same part, which is not live, is not
    ("a", "a 1, b", "part a, ask b, part b", "part a, bring b g as x, ask b, part b, set x = 1, give x as g"),
    # a bring row for a beginning that is not live is left out, too
    ("ab", "a 1, b", "part a, say 1, part b", "part a, bring b, say 1, part b, set x = 1"),
    # rings
    ("a", "a 0, b 0 1", "part a, bring b, part b, bring a, say 1",
     "part a, bring b, set x = 1, part b, bring a, say 1"),
    ("a", "a 0 1, b 0 2 3", "part a, bring b g as x, set y = x, part b, bring a, set z = 2, give z as g",
     "part a, bring b g as x, set y = x, part b, bring a, set w = 3, set z = 2, give z as g, give w as h"),
    # a name that is called like a part which does not stay
    ("a", "a 0 2", "part a, take b, say b", "part a, take b, bring b, say b, part b, set x = 1"),
    ("a", "a 0 1", "part a, set c = 1, say c when c", "part a, set c = 1, say c when c, part c, say 3"),
    # only the reach stays, in the parts' order
    ("b", "b 0", "part b, say 2", "part a, bring b, say 1, part b, say 2, part c, say 3"),
    ("cb", "d 0, b 0, c 0", "part d, say 4, part b, say 2, part c, bring d",
     "part d, say 4, part a, bring b, part b, say 2, part c, bring d"),
)


def slow_live(parts, beginnings):
    reached, come = slow_pairs(parts), slow_pairs(parts, ("bring",))
    kept = slow_kept(parts, beginnings)
    found = [part for part, rows in parts if any((part, other) in come for other, number in kept)]
    return tuple(part for part in found if any((one, part) in reached for one in beginnings))


def slow_rows(parts, part, kept, lively):
    """The rows of a part that stay, with their numbers."""
    for number, row in enumerate(dict(parts)[part]):
        if row[0] in WORK and (part, number) in kept:
            yield (number, row)
        if row[0] == "bring" and row[1] in lively:
            pairs = tuple(pair for pair in row[2] if slow_maker(parts, part, pair[1]) in kept)
            yield (number, ("bring", row[1], pairs))
        if row[0] == "give" and slow_maker(parts, part, row[1]) in kept:
            yield (number, row)


def slow_thinned(parts, beginnings):
    kept = slow_kept(parts, beginnings)
    lively = slow_live(parts, beginnings)
    asked = [dict(parts)[part][number][1] for part, number in kept if dict(parts)[part][number][0] == "ask"]
    found = [
        (part, list(slow_rows(parts, part, kept, lively))) for part, rows in parts
        if part in lively or part in beginnings or part in asked
    ]
    return (
        tuple((part, tuple(row for number, row in rows)) for part, rows in found),
        tuple((part, tuple(number for number, row in rows)) for part, rows in found),
    )


def numbers_of(text):
    """The numbers of a text like "a 0 2, b": two rows of part a, none of b."""
    words = [piece.split() for piece in text.split(",")]
    return tuple((piece[0], tuple(int(word) for word in piece[1:])) for piece in words)


class Live(unittest.TestCase):
    def test_each_case(self):
        for beginnings, expected, text in LIVE:
            with self.subTest(text=text, beginnings=beginnings):
                parts = parts_of(text)
                self.assertIsNone(check(parts))
                in_order = tuple(part for part, rows in parts if part in expected)
                self.assertEqual(live(parts, tuple(beginnings)), in_order)
                self.assertEqual(slow_live(parts, tuple(beginnings)), in_order)

    def test_by_chance(self):
        lively = []
        for parts in sound_parts(300):
            for beginnings in some_beginnings(parts):
                told = live(parts, beginnings)
                self.assertEqual(told, slow_live(parts, beginnings))
                self.assertEqual(kinds(told), (str,) * len(told))
                lively.extend(part in told for part, rows in parts)
        self.assertGreater(lively.count(True), 100)
        self.assertGreater(lively.count(False), 100)

    def test_many_parts_in_a_line(self):
        line = ["part p{0}, bring p{1}".format(k, k + 1) for k in range(300)]
        parts = parts_of(", ".join(line) + ", part p300, say 1")
        self.assertEqual(live(parts, ("p0",)), tuple("p" + str(k) for k in range(301)))


class Thinned(unittest.TestCase):
    def hold_kinds(self, told):
        parts, numbers = told
        self.assertEqual((type(told), type(parts), type(numbers)), (tuple, tuple, tuple))
        self.assertEqual(len(parts), len(numbers))
        for (part, rows), (same, inner) in zip(parts, numbers):
            self.assertEqual(part, same)
            self.assertEqual(kinds(inner), (int,) * len(rows))

    def test_each_case(self):
        for beginnings, numbers, expected, text in THINNED:
            with self.subTest(text=text, beginnings=beginnings):
                parts = parts_of(text)
                self.assertIsNone(check(parts))
                told = thinned(parts, tuple(beginnings))
                self.assertEqual(told, (parts_of(expected), numbers_of(numbers)))
                self.assertEqual(told, slow_thinned(parts, tuple(beginnings)))
                self.assertEqual(kinds(told[0]), kinds(parts_of(expected)))
                self.hold_kinds(told)

    def test_by_chance(self):
        left_out = []
        for parts in sound_parts(300):
            for beginnings in some_beginnings(parts):
                told = thinned(parts, beginnings)
                self.assertEqual(told, slow_thinned(parts, beginnings))
                self.hold_kinds(told)
                left_out.append(told[0] != parts)
        self.assertGreater(left_out.count(True), 100)
        self.assertGreater(left_out.count(False), 20)

    def test_they_stand_the_check(self):
        for parts in sound_parts(300):
            for beginnings in some_beginnings(parts):
                self.assertIsNone(check(thinned(parts, beginnings)[0]))

    def test_thinned_again_they_are_the_same(self):
        for parts in sound_parts(300) + [parts_of(case[-1]) for case in THINNED]:
            for beginnings in some_beginnings(parts):
                thin = thinned(parts, beginnings)[0]
                numbers = tuple((part, tuple(range(len(rows)))) for part, rows in thin)
                self.assertEqual(thinned(thin, beginnings), (thin, numbers))

    def test_papers_of_thinned_parts_are_those_of_the_parts(self):
        for parts in sound_parts(100):
            for beginnings in some_beginnings(parts):
                thin, numbers = thinned(parts, beginnings)
                places = places_of(numbers)
                kept = {(part, number): reason is None for part, number, reason in papers(parts, beginnings)}
                again = {places[(part, number)]: reason is None for part, number, reason in papers(thin, beginnings)}
                self.assertEqual(again, kept)


def places_of(numbers):
    return {(part, row): (part, number) for part, inner in numbers for row, number in enumerate(inner)}


# Beginnings, told numbers, the fault or None, parts: some rows are left out of each.
RUNS = (
    ("a", (4,), None, "part a, set z = 1, bring b, bring c g as x, say x, part b, set y = 1,"
                      "part c, set w = 5, take v, give v as g, give w as h"),
    ("a", (4, 0), ("need", "c", 2, 0), "part a, bring c g as x, say x, part c, set w = 5, take v, need v - 4,"
                                       "give v as g"),
    ("a", (4, 0), ("early", "a", 1, 5), "part a, set w = 1, say 1 + 2 - x, set x = 7"),
    ("a", (4, 0), ("early", "b", 2, 3), "part a, set w = 1, bring b, take x, give x as g,"
                                        "part b, set w = 1, bring a g as y, say 1 when y"),
    ("ab", (3, 1), None, "part a, set w = 0, take x, ask b when x, say 5, part b, set w = 1, take y, say w + y"),
    ("ab", (0, 1), None, "part a, set w = 0, take x, ask b when x, say 5, part b, set w = 1, take y, say w + y"),
)


class RunAlike(unittest.TestCase):
    def hold_alike(self, parts, left, beginnings, numbers):
        thin, kept = left
        places = places_of(kept)
        told = [run(parts, root, numbers) for root in beginnings]
        self.assertEqual([led_back(run(thin, root, numbers), places) for root in beginnings], told)
        return told

    def test_each_case(self):
        for beginnings, numbers, fault, text in RUNS:
            with self.subTest(text=text, numbers=numbers):
                parts = parts_of(text)
                self.assertIsNone(check(parts))
                left = thinned(parts, tuple(beginnings))
                self.assertNotEqual(left[0], parts)
                self.assertEqual(self.hold_alike(parts, left, tuple(beginnings), numbers)[0][1], fault)

    def test_by_chance(self):
        faults = []
        for seed, parts in enumerate(sound_parts(400)):
            for beginnings in some_beginnings(parts):
                left = thinned(parts, beginnings)
                for numbers in told_numbers(seed):
                    told = self.hold_alike(parts, left, beginnings, numbers)
                    if left[0] != parts:
                        faults.extend(fault and fault[0] for deeds, fault in told)
        for kind in (None, "early", "need"):
            self.assertGreater(faults.count(kind), 100, kind)

    def test_most_parts_and_rows(self):
        parts = largest()
        self.assertIsNone(check(parts))
        beginnings = tuple(part for part, rows in parts[:12])
        left = thinned(parts, beginnings)
        self.assertEqual(left, slow_thinned(parts, beginnings))
        self.hold_alike(parts, left, beginnings, (1, 2, 3, 4, 5, 6))


def told(parts):
    names = tuple(part for part, rows in parts)
    return [live(parts, names[k:]) for k in range(len(names))] + [thinned(parts, names[k:]) for k in range(len(names))]


class HandedIn(unittest.TestCase):
    def test_nothing_handed_in_is_changed_and_nothing_else_counts(self):
        hold_untouched(self, told)


if __name__ == "__main__":
    unittest.main()
