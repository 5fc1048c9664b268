import unittest

from helper import hold_untouched, kinds, largest, parts_of, slow_pairs, some_beginnings, sound_parts

from bundlehouse.groups import colour, groups, roots
from bundlehouse.net import check
from bundlehouse.thinned import thinned

# Beginnings, roots, parts.
ROOTS = (
    ("a", "a", "part a"),
    ("b", "b", "part a, bring b, part b, part c"),
    # the beginnings in their order, not the parts'
    ("ba", "ba", "part a, part b"),
    ("cab", "cab", "part a, part b, part c"),
    # then parts that are asked for, in the parts' order, not the rows'
    ("a", "ab", "part a, ask b, part b"),
    ("a", "abc", "part a, ask c, ask b, part b, part c"),
    ("c", "cab", "part a, part b, part c, ask b, ask a"),
    ("dc", "dcab", "part a, part b, part c, ask b, part d, ask a"),
    # each once
    ("a", "ab", "part a, ask b, ask b, part b, part c, ask b"),
    ("a", "abc", "part a, ask c, ask b, part b, ask c, part c, ask b"),
    # a beginning that is asked for
    ("a", "ab", "part a, ask b, part b, ask a"),
    ("ba", "ba", "part a, ask b, part b, ask a"),
    ("cb", "cba", "part a, ask b, part b, ask a, part c, ask b"),
    # an ask row of any part: one that nobody begins, one that may never be done
    ("a", "ab", "part a, part b, part c, ask b"),
    ("a", "ab", "part a, set x = 0, ask b when x, part b"),
    # a bring row asks for nothing, nor does a name that is called like a part
    ("a", "a", "part a, bring b, take b, say b when b, part b"),
    ("a", "ac", "part a, take b, ask c when b, part b, part c"),
)

# Roots, part, colour, parts.
COLOURS = (
    # none
    ("", "a", 0, "part a"),
    ("a", "b", 0, "part a, part b"),
    ("a", "b", 0, "part a, part b, bring a"),
    # a root itself
    ("a", "a", 1, "part a"),
    ("ab", "b", 2, "part a, part b"),
    ("abc", "c", 4, "part a, part b, part c"),
    ("cba", "c", 1, "part a, part b, part c"),
    # one root
    ("a", "b", 1, "part a, bring b, part b"),
    ("ab", "c", 2, "part a, part b, bring c, part c"),
    ("abc", "d", 4, "part a, part b, part c, bring d, part d"),
    # a root that another one comes to
    ("ab", "b", 3, "part a, bring b, part b"),
    ("ab", "a", 1, "part a, bring b, part b"),
    ("ba", "b", 3, "part a, bring b, part b"),
    ("ba", "a", 2, "part a, bring b, part b"),
    # several
    ("ab", "c", 3, "part a, bring c, part b, bring c, part c"),
    ("abc", "d", 5, "part a, bring d, part b, part c, bring d, part d"),
    ("abc", "d", 7, "part a, bring d, part b, bring d, part c, bring d, part d"),
    ("cab", "d", 3, "part a, bring d, part b, part c, bring d, part d"),
    # through several parts
    ("a", "d", 1, "part a, bring b, part b, bring c, part c, bring d, part d"),
    ("ae", "d", 3, "part a, bring b, part b, bring c, part c, bring d, part d, part e, bring c"),
    ("ae", "b", 1, "part a, bring b, part b, bring c, part c, bring d, part d, part e, bring c"),
    # in a ring
    ("a", "a", 1, "part a, bring b, part b, bring c, part c, bring a"),
    ("ab", "c", 3, "part a, bring b, part b, bring c, part c, bring a"),
    ("ad", "c", 3, "part a, bring b, part b, bring c, part c, bring b, part d, bring c"),
    ("ad", "d", 2, "part a, bring b, part b, bring c, part c, bring b, part d, bring c"),
    # two ways to a part count once
    ("a", "d", 1, "part a, bring b, bring c, bring d, bring d, part b, bring d, part c, bring d, part d"),
    # ask rows lead nowhere here
    ("a", "b", 0, "part a, ask b, part b"),
    ("ab", "b", 2, "part a, ask b, part b"),
    ("ab", "c", 2, "part a, ask b, part b, bring c, part c"),
    ("a", "c", 0, "part a, bring b, part b, ask c, part c"),
    # a part that is no root may ask and bring in
    ("b", "c", 0, "part a, bring b, bring c, part b, part c"),
)

# Beginnings, groups as "colour names size", parts.
GROUPS = (
    ("a", "1 a 1", "part a"),
    ("a", "1 a 3", "part a, say 1, say 2"),
    # give rows are not counted, all others are
    ("a", "1 a 6, 2 b 1", "part a, take x, set y = x, need y, ask b, say y when x, part b"),
    ("a", "1 a 2", "part a, take x, give x as g, give x as h"),
    ("a", "1 ab 5", "part a, bring b g as x, bring b, give x as h, part b, take y, give y as g, give y as k"),
    # parts of one colour, in the parts' order
    ("a", "1 ab 3", "part a, bring b, part b"),
    ("a", "1 ba 3", "part b, part a, bring b"),
    ("a", "1 cab 5", "part c, bring b, part a, bring c, part b"),
    ("ab", "3 cd 3, 1 a 2, 2 b 2", "part c, part a, bring d, part d, bring c, part b, bring d"),
    # parts of colour 0 lie in none
    ("a", "1 a 1", "part a, part b, say 1"),
    ("b", "1 b 1", "part a, bring b, part b"),
    ("c", "1 c 2", "part a, part b, part c, say 1"),
    # groups by their first parts, not by colours or roots
    ("ab", "1 a 1, 2 b 1", "part a, part b"),
    ("ba", "2 a 1, 1 b 1", "part a, part b"),
    ("ba", "3 c 1, 2 ae 4, 1 bd 4",
     "part c, part a, bring c, bring e, part b, bring c, bring d, part d, part e"),
    # parts that are asked for are roots
    ("a", "1 a 2, 2 b 2", "part a, ask b, part b, say 1"),
    ("b", "2 a 2, 1 b 2, 3 c 1", "part a, bring c, part b, bring c, part c, part d, ask a"),
    ("a", "1 ab 4", "part a, bring b, part b, ask a"),
    ("a", "1 a 3, 3 b 1", "part a, bring b, ask b, part b"),
    # a ring that two roots come to at two places
    ("ab", "1 a 2, 2 b 2, 3 cd 4", "part a, bring c, part b, bring d, part c, bring d, part d, bring c"),
)


def slow_roots(parts, beginnings):
    found = list(beginnings)
    for part, rows in parts:
        asking = [row for other, inner in parts for row in inner if row[:2] == ("ask", part)]
        if asking and part not in found:
            found.append(part)
    return tuple(found)


def slow_colours(parts, some):
    pairs = slow_pairs(parts, ("bring",))
    return {part: sum(2 ** number for number, root in enumerate(some) if (root, part) in pairs)
            for part, rows in parts}


def slow_groups(parts, beginnings):
    tints = slow_colours(parts, slow_roots(parts, beginnings))
    told = []
    for part, rows in parts:
        if tints[part] and tints[part] not in [group[0] for group in told]:
            names = tuple(other for other, inner in parts if tints[other] == tints[part])
            written = list(names) + [row for other in names for row in dict(parts)[other] if row[0] != "give"]
            told.append((tints[part], names, len(written)))
    return tuple(told)


def groups_of(text):
    words = [piece.split() for piece in text.split(",")]
    return tuple((int(tint), tuple(names), int(size)) for tint, names, size in words)


class Roots(unittest.TestCase):
    def test_each_case(self):
        for beginnings, expected, text in ROOTS:
            with self.subTest(text=text, beginnings=beginnings):
                parts = parts_of(text)
                self.assertIsNone(check(parts))
                told = roots(parts, tuple(beginnings))
                self.assertEqual(told, tuple(expected))
                self.assertEqual(kinds(told), (str,) * len(expected))

    def test_by_chance(self):
        more = []
        for parts in sound_parts(200):
            for beginnings in some_beginnings(parts):
                told = roots(parts, beginnings)
                self.assertEqual(told, slow_roots(parts, beginnings))
                more.append(len(told) - len(beginnings))
        self.assertGreater(more.count(0), 50)
        self.assertGreater(len([count for count in more if count > 1]), 50)


class Colour(unittest.TestCase):
    def test_each_case(self):
        for some, part, expected, text in COLOURS:
            with self.subTest(text=text, some=some, part=part):
                parts = parts_of(text)
                self.assertIsNone(check(parts))
                told = colour(parts, tuple(some), part)
                self.assertEqual(told, expected)
                self.assertIs(type(told), int)
                self.assertEqual(slow_colours(parts, tuple(some))[part], expected)

    def test_by_chance(self):
        seen = []
        for parts in sound_parts(150):
            for beginnings in some_beginnings(parts):
                some = roots(parts, beginnings)
                told = {part: colour(parts, some, part) for part, rows in parts}
                self.assertEqual(told, slow_colours(parts, some))
                self.assertEqual({type(tint) for tint in told.values()}, {int})
                seen.extend(told.values())
        for tint in (0, 1, 2, 3):
            self.assertGreater(seen.count(tint), 20, tint)

    def test_of_some_parts_that_are_not_all_roots(self):
        for parts in sound_parts(60):
            for some in some_beginnings(parts):
                told = {part: colour(parts, some, part) for part, rows in parts}
                self.assertEqual(told, slow_colours(parts, some))

    def test_24_roots(self):
        parts = largest()
        names = tuple(part for part, rows in parts)
        self.assertEqual([colour(parts, names, part) for part in names], [2 ** (k + 1) - 1 for k in range(24)])


class Groups(unittest.TestCase):
    def hold_kinds(self, told):
        self.assertIs(type(told), tuple)
        for group in told:
            self.assertEqual(kinds(group), (int, (str,) * len(group[1]), int))

    def test_each_case(self):
        for beginnings, expected, text in GROUPS:
            with self.subTest(text=text, beginnings=beginnings):
                parts = parts_of(text)
                self.assertIsNone(check(parts))
                told = groups(parts, tuple(beginnings))
                self.assertEqual(told, groups_of(expected))
                self.hold_kinds(told)
                self.assertEqual(slow_groups(parts, tuple(beginnings)), told)

    def test_by_chance(self):
        seen = []
        for parts in sound_parts(150) + sound_parts(30, 12):
            for beginnings in some_beginnings(parts):
                told = groups(parts, beginnings)
                self.assertEqual(told, slow_groups(parts, beginnings))
                self.hold_kinds(told)
                seen.append((len(told), max(len(names) for tint, names, size in told)))
        for count in (1, 2, 3, 4):
            self.assertGreater([pair[0] for pair in seen].count(count), 20, count)
            self.assertGreater([pair[1] for pair in seen].count(count), 5, count)

    def test_each_part_with_a_colour_lies_in_just_one(self):
        for parts in sound_parts(60):
            for beginnings in some_beginnings(parts):
                some = roots(parts, beginnings)
                laid = [part for tint, names, size in groups(parts, beginnings) for part in names]
                coloured = [part for part, rows in parts if colour(parts, some, part)]
                self.assertEqual(sorted(laid), sorted(coloured))

    def test_of_thinned_parts_no_part_is_without_a_colour(self):
        for parts in sound_parts(200):
            for beginnings in some_beginnings(parts):
                thin = thinned(parts, beginnings)[0]
                told = groups(thin, beginnings)
                self.assertEqual(told, slow_groups(thin, beginnings))
                self.assertEqual(sum(len(names) for tint, names, size in told), len(thin))

    def test_most_parts_and_rows(self):
        parts = largest()
        names = tuple(part for part, rows in parts)
        told = groups(parts, names[:12])
        self.assertEqual(told, slow_groups(parts, names[:12]))
        self.assertEqual(told[-1], (2 ** 12 - 1, names[11:], 13 * 35))

    def test_many_parts_in_a_line(self):
        line = ["part p{0}, bring p{1}".format(k, k + 1) for k in range(300)]
        parts = parts_of(", ".join(line) + ", part p300, say 1")
        self.assertEqual(groups(parts, ("p0",)), ((1, tuple("p" + str(k) for k in range(301)), 602),))


def told(parts):
    names = tuple(part for part, rows in parts)
    some = roots(parts, names[-1:])
    return [some, groups(parts, names[-1:]), groups(parts, names[::-1])] + [colour(parts, some, part) for part in names]


class HandedIn(unittest.TestCase):
    def test_nothing_handed_in_is_changed_and_nothing_else_counts(self):
        hold_untouched(self, told)


if __name__ == "__main__":
    unittest.main()
