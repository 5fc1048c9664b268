import itertools
import unittest

from helper import hold_untouched, kinds, net_by_chance, parts_of, slow_bringings, slow_pairs, sound_parts

from bundlehouse.errors import BundleError, TooMany
from bundlehouse.net import check
from bundlehouse.rings import fewest, ring_table, tangles

# Tangles, parts.
TANGLES = (
    ("", ""),
    ("a", "part a"),
    ("a b", "part a, part b"),
    ("a b", "part a, bring b, part b"),
    ("ab", "part a, bring b, part b, bring a"),
    ("abc", "part a, bring b, part b, bring c, part c, bring a"),
    # in the parts' order, by their first parts
    ("cab", "part c, bring a, part a, bring b, part b, bring c"),
    ("ad bc", "part a, bring d, part b, bring c, part c, bring b, part d, bring a"),
    ("d ac b", "part d, bring a, part a, bring c, part b, bring a, part c, bring a"),
    # rings that have a part or a bringing-in in common
    ("abc", "part a, bring b, bring c, part b, bring a, part c, bring a"),
    ("abcd", "part a, bring b, part b, bring c, bring d, part c, bring a, part d, bring a"),
    # several bring rows for one part
    ("ab", "part a, bring b, bring b, part b, bring a, bring a"),
    # ask rows lead nowhere here
    ("a b", "part a, ask b, part b, ask a"),
    ("a b", "part a, bring b, part b, ask a"),
    ("ab c", "part a, bring b, ask c, part b, bring a, part c, ask a"),
)

# Table, parts that are one tangle.
TABLES = (
    ((0, 0), "part a"),
    ((0, 0, 0, 1), "part a, bring b, part b, bring a"),
    ((0, 0, 0, 0, 0, 0, 0, 1), "part a, bring b, part b, bring c, part c, bring a"),
    # several bring rows for one part count once, ask rows not at all
    ((0, 0, 0, 1), "part a, bring b, ask b, bring b, part b, bring a, ask a, bring a, bring a"),
    ((0, 0, 0, 0, 0, 0, 0, 1), "part a, bring b, ask c, part b, bring c, ask a, part c, bring a, ask b"),
    # two rings with one bringing-in in common, with one part in common
    ((0, 0, 0, 0, 0, 0, 0, 1, 0, 0, 0, 1, 0, 0, 0, 1),
     "part a, bring b, part b, bring c, bring d, part c, bring a, part d, bring a"),
    ((0, 0, 0, 1, 0, 1, 0, 2), "part a, bring b, bring c, part b, bring a, part c, bring a"),
    # each brings in each
    ((0, 0, 0, 1, 0, 1, 1, 3), "part a, bring b, bring c, part b, bring a, bring c, part c, bring a, bring b"),
    # places by the parts' order
    ((0, 0, 0, 0, 0, 0, 1, 1), "part c, bring a, part a, bring b, part b, bring c, bring a"),
    ((0, 0, 0, 1, 0, 0, 0, 1), "part b, bring c, bring a, part a, bring b, part c, bring a"),
)

# The only fewest cut, parts.
FEWEST = (
    ("", ""),
    ("", "part a"),
    ("", "part a, bring b, part b, bring c, part c"),
    ("", "part a, bring b, ask c, part b, bring c, ask a, part c, ask a"),
    # two rings with one bringing-in in common, some with many rows for it
    ("ab", "part a, bring b, part b, bring c, bring d, part c, bring a, part d, bring a"),
    ("ab", "part a, bring b, bring b, bring b, part b, bring c, bring d, part c, bring a, part d, bring a"),
    ("ca", "part a, bring b, bring d, part b, bring c, part c, bring a, part d, bring c"),
    # the OTHERs in the parts' order, not the rows'
    ("ab ac", "part a, bring c, bring b, part b, bring x, bring y, part c, bring z, bring w,"
              "part x, bring a, part y, bring a, part z, bring a, part w, bring a"),
    ("ac ab", "part a, bring b, bring c, part c, bring z, bring w, part b, bring x, bring y,"
              "part x, bring a, part y, bring a, part z, bring a, part w, bring a"),
    # the PARTs in the parts' order, though the other tangle's first part stands ahead
    ("pq ab", "part b, bring x, bring y, part p, bring q, part q, bring u, bring v, part u, bring p, part v, bring p,"
              "part a, bring b, part x, bring a, part y, bring a"),
    # the PARTs of one tangle in the parts' order
    ("ba ca", "part x, bring b, part y, bring b, part z, bring c, part w, bring c, part b, bring a, part c, bring a,"
              "part a, bring x, bring y, bring z, bring w"),
)


def is_free(edges):
    """Whether there is no ring: parts that nothing leads from are taken away until none is left."""
    left = list(edges)
    while left:
        begins = {one for one, other in left}
        some = [pair for pair in left if pair[1] in begins]
        if len(some) == len(left):
            return False
        left = some
    return True


def slow_count(edges):
    for count in range(len(edges) + 1):
        for cut in itertools.combinations(edges, count):
            if is_free([pair for pair in edges if pair not in cut]):
                return count


def slow_table(parts, tangle):
    told = []
    for place in range(2 ** len(tangle)):
        some = [part for number, part in enumerate(tangle) if place // 2 ** number % 2]
        told.append(slow_count([pair for pair in slow_bringings(parts) if pair[0] in some and pair[1] in some]))
    return tuple(told)


def slow_tangles(parts):
    pairs = slow_pairs(parts, ("bring",))
    found = []
    for part, rows in parts:
        tangle = tuple(other for other, inner in parts if (part, other) in pairs and (other, part) in pairs)
        if tangle not in found:
            found.append(tangle)
    return tuple(found)


def ring_of(names):
    """A ring of parts, each bringing in the next one, as text."""
    return ["part {0}, bring {1}".format(one, other) for one, other in zip(names, names[1:] + names[:1])]


def names_of(letter, count):
    return [letter + str(k) for k in range(count)]


class Tangles(unittest.TestCase):
    def test_each_case(self):
        for expected, text in TANGLES:
            with self.subTest(text):
                parts = parts_of(text)
                self.assertIsNone(check(parts))
                told = tangles(parts)
                self.assertEqual(told, tuple(tuple(word) for word in expected.split()))
                self.assertEqual(slow_tangles(parts), told)
                self.assertEqual(kinds(told), tuple((str,) * len(tangle) for tangle in told))

    def test_by_chance(self):
        sizes = []
        for parts in [net_by_chance(seed, 10) for seed in range(400)] + sound_parts(100):
            told = tangles(parts)
            self.assertEqual(told, slow_tangles(parts))
            sizes.extend(len(tangle) for tangle in told)
        for size in (1, 2, 3, 4):
            self.assertGreater(sizes.count(size), 20, size)

    def test_24_parts(self):
        names = names_of("p", 24)
        self.assertEqual(tangles(parts_of(", ".join(ring_of(names)))), (tuple(names),))


class RingTable(unittest.TestCase):
    def test_each_case(self):
        for expected, text in TABLES:
            with self.subTest(text):
                parts = parts_of(text)
                self.assertIsNone(check(parts))
                (tangle,) = tangles(parts)
                told = ring_table(parts, tangle)
                self.assertEqual(told, expected)
                self.assertEqual(slow_table(parts, tangle), expected)
                self.assertEqual(kinds(told), (int,) * len(expected))

    def test_by_chance(self):
        seen = []
        for seed in range(500):
            parts = net_by_chance(seed, 6)
            for tangle in tangles(parts):
                told = ring_table(parts, tangle)
                self.assertEqual(told, slow_table(parts, tangle))
                self.assertEqual(kinds(told), (int,) * 2 ** len(tangle))
                seen.append(told[-1])
        for count in (0, 1, 2, 3):
            self.assertGreater(seen.count(count), 5, count)

    def test_one_tangle_of_several(self):
        parts = parts_of("part a, bring b, part c, bring d, bring a, part b, bring a, part d, bring e, part e, bring c,"
                         "part f, bring a")
        self.assertEqual(tangles(parts), (("a", "b"), ("c", "d", "e"), ("f",)))
        self.assertEqual(ring_table(parts, ("a", "b")), (0, 0, 0, 1))
        self.assertEqual(ring_table(parts, ("c", "d", "e")), (0, 0, 0, 0, 0, 0, 0, 1))
        self.assertEqual(ring_table(parts, ("f",)), (0, 0))

    def test_eight_parts(self):
        names = names_of("p", 8)
        ring = parts_of(", ".join(ring_of(names)))
        self.assertEqual(ring_table(ring, tuple(names)), (0,) * 255 + (1,))
        rows = ["part {0}, ".format(part) + ", ".join("bring " + other for other in names if other != part)
                for part in names]
        told = ring_table(parts_of(", ".join(rows)), tuple(names))
        counts = [bin(place).count("1") for place in range(256)]
        self.assertEqual(told, tuple(count * (count - 1) // 2 for count in counts))

    def test_nine_parts_are_refused(self):
        names = names_of("p", 9)
        parts = parts_of(", ".join(ring_of(names) + ring_of(["a", "b"])))
        with self.assertRaises(TooMany) as caught:
            ring_table(parts, tuple(names))
        self.assertIsInstance(caught.exception, BundleError)
        self.assertEqual(caught.exception.parts, tuple(names))
        # the table of the other tangle is told
        self.assertEqual(ring_table(parts, ("a", "b")), (0, 0, 0, 1))


class Fewest(unittest.TestCase):
    def hold(self, parts):
        told = fewest(parts)
        edges = slow_bringings(parts)
        self.assertEqual(kinds(told), ((str, str),) * len(told))
        self.assertTrue(set(told) <= set(edges))
        self.assertTrue(is_free([pair for pair in edges if pair not in told]))
        place = {part: number for number, (part, rows) in enumerate(parts)}
        numbers = [(place[part], place[other]) for part, other in told]
        self.assertEqual(numbers, sorted(set(numbers)))
        return told

    def test_each_case(self):
        for expected, text in FEWEST:
            with self.subTest(text):
                parts = parts_of(text)
                self.assertIsNone(check(parts))
                self.assertEqual(self.hold(parts), tuple(tuple(word) for word in expected.split()))
                # it is the only one, so no other could be told
                edges = slow_bringings(parts)
                cuts = itertools.combinations(edges, len(expected.split()))
                free = [cut for cut in cuts if is_free([pair for pair in edges if pair not in cut])]
                self.assertEqual(len(free), 1)

    def test_where_several_may_be_told(self):
        for count, text in (
            (1, "part a, bring b, part b, bring a"),
            (1, "part a, bring b, part b, bring c, part c, bring a"),
            (2, "part a, bring b, bring c, part b, bring a, part c, bring a"),
            (2, "part a, bring b, part c, bring d, part b, bring a, part d, bring c"),
            (3, "part a, bring b, bring c, part b, bring a, bring c, part c, bring a, bring b"),
        ):
            with self.subTest(text):
                self.assertEqual(len(self.hold(parts_of(text))), count)

    def test_by_chance(self):
        seen = []
        for seed in range(500):
            parts = net_by_chance(seed, 7)
            told = self.hold(parts)
            self.assertEqual(len(told), slow_count(slow_bringings(parts)))
            seen.append(len(told))
        for count in (0, 1, 2, 3):
            self.assertGreater(seen.count(count), 5, count)

    def test_parts_with_all_rows(self):
        for parts in sound_parts(150):
            told = self.hold(parts)
            self.assertEqual(len(told), sum(ring_table(parts, tangle)[-1] for tangle in tangles(parts)))

    def test_24_parts_in_three_tangles_of_eight(self):
        rings = [ring_of(names_of(letter, 8)) for letter in "abc"]
        parts = parts_of(", ".join(itertools.chain(*zip(*rings))))
        self.assertEqual(len(tangles(parts)), 3)
        self.assertEqual(len(self.hold(parts)), 3)

    def test_nine_parts_in_a_tangle_are_refused(self):
        for rings, expected in (
            ([names_of("p", 9)], 0),
            ([names_of("p", 10)], 0),
            ([names_of("p", 24)], 0),
            # behind tangles that are not too large
            ([["a", "b"], names_of("p", 9), ["c", "d"]], 1),
            ([names_of("p", 8), names_of("q", 9)], 1),
            # the first of several, which need not be the largest
            ([names_of("p", 9), names_of("q", 10)], 0),
            ([["a", "b"], names_of("p", 12), names_of("q", 9)], 1),
        ):
            rows = [row for names in rings for row in ring_of(names)]
            with self.subTest(rings=rings):
                with self.assertRaises(TooMany) as caught:
                    fewest(parts_of(", ".join(rows)))
                self.assertIsInstance(caught.exception, BundleError)
                self.assertEqual(caught.exception.parts, tuple(rings[expected]))
                self.assertEqual(kinds(caught.exception.parts), (str,) * len(rings[expected]))

    def test_the_first_of_several_tangles_is_that_with_the_first_part(self):
        one, other = ring_of(names_of("p", 9)), ring_of(names_of("q", 9))
        for rows, letter in ((other[:1] + one + other[1:], "q"), (one[3:] + other + one[:3], "p")):
            with self.assertRaises(TooMany) as caught:
                fewest(parts_of(", ".join(rows)))
            self.assertEqual(sorted(caught.exception.parts), names_of(letter, 9))
            # in the parts' order
            order = [row.split(",")[0][5:] for row in rows if row[5] == letter]
            self.assertEqual(caught.exception.parts, tuple(order))


def told(parts):
    found = tangles(parts)
    return (found, [ring_table(parts, tangle) for tangle in found], fewest(parts))


class HandedIn(unittest.TestCase):
    def test_nothing_handed_in_is_changed_and_nothing_else_counts(self):
        hold_untouched(self, told)


if __name__ == "__main__":
    unittest.main()
