import itertools
import unittest

from helper import hold_untouched, kinds, parts_of, slow_pairs, sound_parts

from bundlehouse.knots import knots, reach

LINE = "part a, bring b, part b, ask c, part c, bring d, part d"
# Two knots, a and b by bring rows, d and e by ask rows, with c between them.
TWO = "part e, ask d, part b, bring a, bring c, part a, bring b, part d, ask e, part c, ask d"


def slow_knots(parts):
    pairs = slow_pairs(parts)
    names = [part for part, rows in parts]
    found = [tuple(other for other in names if {(part, other), (other, part)} <= pairs) for part in names]
    return tuple(dict.fromkeys(found))


class Reach(unittest.TestCase):
    def test_reach(self):
        for text, some, expected in (
            (LINE, "", ""),
            (LINE, "a", "abcd"),
            (LINE, "b", "bcd"),
            (LINE, "c", "cd"),
            (LINE, "d", "d"),
            (LINE, "dc", "cd"),
            (LINE, "abcd", "abcd"),
            (LINE, "dcba", "abcd"),
            (TWO, "a", "ebadc"),
            (TWO, "b", "ebadc"),
            (TWO, "c", "edc"),
            (TWO, "e", "ed"),
            (TWO, "da", "ebadc"),
            # the parts' order, not that in which they are told or reached
            ("part z, part y, part x, bring y, bring z", "x", "zyx"),
            ("part a, part b, part c", "cb", "bc"),
            # an ask row counts whatever stands behind when
            ("part a, set x = 0, ask b when x, part b", "a", "ab"),
            # rings
            ("part a, bring b, part b, ask c, part c, bring a, part d, bring a", "b", "abc"),
        ):
            with self.subTest(text=text, some=some):
                self.assertEqual(reach(parts_of(text), tuple(some)), tuple(expected))

    def test_no_parts(self):
        self.assertEqual(reach((), ()), ())

    def test_by_chance(self):
        for parts in sound_parts(150):
            pairs = slow_pairs(parts)
            names = [part for part, rows in parts]
            for size in range(4):
                for some in itertools.permutations(names, size):
                    told = reach(parts, some)
                    self.assertEqual(told, tuple(name for name in names if any((one, name) in pairs for one in some)))
                    self.assertEqual(kinds(told), (str,) * len(told))


class Knots(unittest.TestCase):
    def test_knots(self):
        for text, expected in (
            ("", ()),
            ("part a", ("a",)),
            ("part b, part a", ("b", "a")),
            (LINE, ("a", "b", "c", "d")),
            (TWO, ("ed", "ba", "c")),
            # by bring rows, by ask rows, by both
            ("part a, bring b, part b, bring a", ("ab",)),
            ("part a, ask b, part b, ask a", ("ab",)),
            ("part a, bring b, part b, ask a", ("ab",)),
            ("part a, bring b, part b, ask c, part c, bring a", ("abc",)),
            # by their first parts, each in the parts' order
            ("part d, part c, bring a, part b, bring d, part a, ask c", ("d", "ca", "b")),
            ("part c, ask a, part x, part a, bring b, part b, bring c, part y, bring x", ("cab", "x", "y")),
            # two rings with a part in both are one knot
            ("part a, bring b, part b, bring a, ask c, part c, bring b", ("abc",)),
            # into a ring and out of it
            ("part a, bring b, part b, bring c, part c, bring b, bring d, part d", ("a", "bc", "d")),
        ):
            with self.subTest(text):
                self.assertEqual(knots(parts_of(text)), tuple(tuple(knot) for knot in expected))

    def test_by_chance(self):
        sizes = []
        for parts in sound_parts(200, 8):
            told = knots(parts)
            self.assertEqual(told, slow_knots(parts))
            self.assertEqual(set(kinds(knot)[0] for knot in told), {str})
            self.assertEqual(type(told), tuple)
            sizes.extend(len(knot) for knot in told)
        self.assertGreater(len([size for size in sizes if size > 1]), 20)

    def test_many_parts(self):
        line = ["part p{0}, bring p{1}".format(k, k + 1) for k in range(200)]
        parts = parts_of(", ".join(line) + ", part p200, take x")
        self.assertEqual(len(knots(parts)), 201)
        ring = parts_of(", ".join(line) + ", part p200, ask p0")
        self.assertEqual(knots(ring), (tuple("p" + str(k) for k in range(201)),))


def told(parts):
    return (knots(parts), [reach(parts, (part,)) for part, rows in parts])


class HandedIn(unittest.TestCase):
    def test_nothing_handed_in_is_changed_and_nothing_else_counts(self):
        hold_untouched(self, told)


if __name__ == "__main__":
    unittest.main()
