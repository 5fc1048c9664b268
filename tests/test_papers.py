import itertools
import unittest

from helper import (
    WORK, hold_untouched, kinds, largest, parts_of, places, slow_kept, slow_loud, slow_maker, slow_pairs, slow_sure,
    sound_parts,
)

from bundlehouse.net import check
from bundlehouse.papers import loud, papers, sure
from bundlehouse.rows import read_names

# Whether a name is sure at a row of the part a: the row's number, the name, whether it is.
SURE = (
    # made above, below, by the row itself
    (1, "x", True, "part a, take x, say x"),
    (1, "x", True, "part a, set x = 1, need x"),
    (2, "x", True, "part a, take x, say 1, set y = x"),
    (0, "x", False, "part a, say x, take x"),
    (0, "x", False, "part a, set y = x, set x = 1"),
    (0, "x", False, "part a, set x = x"),
    (1, "y", False, "part a, take x, say x when y, take y"),
    (1, "x", True, "part a, take x, say y when x, take y"),
    # brought in above, below
    (1, "x", True, "part a, bring b g as x, say x, part b, take y, give y as g"),
    (0, "x", False, "part a, say x, bring b g as x, part b, take y, give y as g"),
    (1, "z", True, "part a, bring b g as x g as z, ask b when z, part b, take y, give y as g"),
    (1, "z", False, "part a, bring b g as x, say z, bring b g as z, part b, take y, give y as g"),
    # a part in the knot: by bring rows, by ask rows, through a third part
    (1, "x", False, "part a, bring b g as x, say x, part b, bring a, take y, give y as g"),
    (1, "x", False, "part a, bring b g as x, say x, part b, ask a, take y, give y as g"),
    (1, "x", False, "part a, bring b g as x, say x, part b, take y, give y as g, bring c, part c, ask a"),
    # a knot of other parts is none of this one
    (1, "x", True, "part a, bring b g as x, say x, part b, take y, give y as g, bring c, part c, bring b"),
    # who brings this part in is not in its knot
    (1, "x", True, "part a, bring b g as x, say x, part b, take y, give y as g, part c, bring a, bring b"),
    # the part of the bring row counts, not that of the maker
    (2, "x", True, "part a, bring c g as x, bring b, say x, part b, bring a, part c, take y, give y as g"),
    (1, "x", False, "part a, bring b g as x, say x, part b, bring a, bring c g as y, give y as g,"
                    "part c, take y, give y as g"),
    # what is made above is sure in a knot, too; what is brought in from its part is not
    (1, "x", True, "part a, take x, say x, bring b, part b, bring a"),
    (2, "x", True, "part a, bring b g as y, take x, say x + y, part b, bring a, take y, give y as g"),
    (2, "y", False, "part a, bring b g as y, take x, say x + y, part b, bring a, take y, give y as g"),
    # of two parts, one in the knot
    (2, "x", True, "part a, bring b g as x, bring c g as y, set z = x + y, part b, take x, give x as g,"
                   "part c, bring a, take x, give x as g"),
    (2, "y", False, "part a, bring b g as x, bring c g as y, set z = x + y, part b, take x, give x as g,"
                    "part c, bring a, take x, give x as g"),
    # a name that is called like a part of the knot
    (1, "b", True, "part a, take b, say b, bring b, part b, bring a"),
    (1, "a", True, "part a, set a = 1, say a"),
    # a row of another part with that name counts nothing
    (0, "x", False, "part b, take x, part a, say x, take x"),
)

# Whether a row of the part a is loud.
LOUD = (
    (0, True, "part a, take x"),
    (0, True, "part a, say 1"),
    (0, True, "part a, need 1"),
    (0, True, "part a, ask b, part b"),
    (1, True, "part a, set x = 1, say x"),
    (1, True, "part a, set x = 0, say 1 when x"),
    (1, True, "part a, set x = 0, ask b when x, part b"),
    (1, True, "part a, set x = 1, need x"),
    # set rows: no names, all sure, one of them not
    (0, False, "part a, set x = 1"),
    (0, False, "part a, set x = 1 + 2 - 3"),
    (1, False, "part a, take x, set y = x + x"),
    (2, False, "part a, take x, take y, set z = x + y - x"),
    (1, True, "part a, take x, set z = x + y, take y"),
    (1, True, "part a, take x, set z = y + x, take y"),
    (0, True, "part a, set x = x"),
    # brought in
    (1, False, "part a, bring b g as x, set y = x, part b, take y, give y as g"),
    (0, True, "part a, set y = x, bring b g as x, part b, take y, give y as g"),
    (1, True, "part a, bring b g as x, set y = x, part b, bring a, take y, give y as g"),
    (1, True, "part a, bring b g as x, set y = x, part b, ask a, take y, give y as g"),
    (1, False, "part a, bring b g as x, set y = 1, part b, ask a, take y, give y as g"),
    (2, False, "part a, bring b g as x, set z = 1, set y = z, part b, ask a, take y, give y as g"),
)

# Beginnings, the loud rows, the other kept rows, parts.
KEPT = (
    ("a", "", "", "part a"),
    ("a", "", "", "part a, set x = 1, set y = x, give y as g"),
    ("a", "a0", "", "part a, say 1"),
    ("a", "a0", "", "part a, take x"),
    ("a", "a2", "a0", "part a, set x = 1, set y = 2, say x"),
    ("a", "a2", "a0 a1", "part a, set x = 1, set y = x, say y"),
    ("a", "a3", "a0 a1 a2", "part a, set x = 1, set y = x, set z = y + x, say z when z"),
    ("a", "a1", "a0", "part a, set x = 1, ask b when x, part b, set y = 2"),
    ("a", "a1", "a0", "part a, set x = 1, need x, set y = x, set z = y"),
    # a maker that is loud itself has no reason
    ("a", "a0 a1", "", "part a, take x, say x"),
    ("a", "a0 a2", "a1", "part a, take x, set y = x, say y"),
    # makers in other parts, through several
    ("a", "a1", "c1", "part a, bring b g as x, say x, part b, bring c h as y, give y as g, part c, set u = 3,"
                      "set z = 1, give z as h, give u as i"),
    ("a", "a1", "b1 c0", "part a, bring b g as x, say x, part c, set z = 1, give z as h,"
                         "part b, bring c h as w, set y = w, give y as g"),
    ("a", "a1 b0", "c0", "part a, bring b g as x, say x, part c, set z = 1, give z as h,"
                         "part b, set y = w, bring c h as w, give y as g"),
    # only the reach of the beginnings counts, by bring and ask rows
    ("b", "b0", "", "part a, say 1, bring b, part b, say 2"),
    ("a", "a0 a2 b0 c0", "", "part a, take x, bring b, ask c when x, part b, say 2, part c, say 3, part d, say 4"),
    ("bd", "b0 d0", "", "part a, say 1, bring b, part b, say 2, part c, say 3, part d, say 4"),
    # a set row that may be early is loud, and its makers are kept
    ("a", "a0", "a1", "part a, set x = y, set y = 1"),
    ("a", "a0", "", "part a, set x = x"),
    # a maker made in a ring
    ("a", "a1", "b1", "part a, bring b g as x, set y = x, part b, bring a, set z = 2, give z as g"),
)


class Sure(unittest.TestCase):
    def test_each_case(self):
        for row, name, expected, text in SURE:
            with self.subTest(text=text, row=row, name=name):
                parts = parts_of(text)
                self.assertIsNone(check(parts))
                self.assertIs(sure(parts, "a", row, name), expected)

    def test_by_chance(self):
        told = []
        for parts in sound_parts(300):
            pairs = slow_pairs(parts)
            for part, rows in parts:
                for number, row in enumerate(rows):
                    for word, name in read_names(row):
                        told.append(sure(parts, part, number, name))
                        self.assertIs(told[-1], slow_sure(parts, pairs, part, number, name))
        self.assertGreater(told.count(True), 100)
        self.assertGreater(told.count(False), 100)


class Loud(unittest.TestCase):
    def test_each_case(self):
        for row, expected, text in LOUD:
            with self.subTest(text=text, row=row):
                parts = parts_of(text)
                self.assertIsNone(check(parts))
                self.assertIs(loud(parts, "a", row), expected)

    def test_by_chance(self):
        told = []
        for parts in sound_parts(300):
            pairs = slow_pairs(parts)
            for part, rows in parts:
                for number, row in enumerate(rows):
                    if row[0] in WORK:
                        told.append(loud(parts, part, number))
                        self.assertIs(told[-1], slow_loud(parts, pairs, part, number))
        self.assertGreater(told.count(True), 100)
        self.assertGreater(told.count(False), 100)


class Papers(unittest.TestCase):
    def hold(self, parts, told, expected):
        """These rows are kept, and each reason is a good one."""
        self.assertIs(type(told), tuple)
        kept = [(part, number) for part, number, reason in told]
        self.assertEqual(sorted(kept), sorted(expected))
        for place, (part, number, reason) in enumerate(told):
            self.assertEqual(kinds((part, number)), (str, int))
            if expected[(part, number)]:
                self.assertIsNone(reason)
            else:
                self.assertEqual(kinds(reason), (str, int))
                self.assertIn(reason, kept[:place])
                read = [name for word, name in read_names(dict(parts)[reason[0]][reason[1]])]
                self.assertIn((part, number), [slow_maker(parts, reason[0], name) for name in read])

    def test_each_case(self):
        for beginnings, loud_rows, others, text in KEPT:
            with self.subTest(text):
                parts = parts_of(text)
                self.assertIsNone(check(parts))
                expected = {place: True for place in places(loud_rows)}
                expected.update({place: False for place in places(others)})
                self.assertEqual(slow_kept(parts, tuple(beginnings)), expected)
                self.hold(parts, papers(parts, tuple(beginnings)), expected)

    def test_by_chance(self):
        reasons = []
        for parts in sound_parts(300):
            names = [part for part, rows in parts]
            for size in (1, 2):
                for beginnings in itertools.permutations(names, size):
                    told = papers(parts, beginnings)
                    self.hold(parts, told, slow_kept(parts, beginnings))
                    reasons.extend(reason is None for part, number, reason in told)
        self.assertGreater(reasons.count(True), 100)
        self.assertGreater(reasons.count(False), 100)

    def test_loud_rows_are_those_that_loud_tells(self):
        for parts in sound_parts(100):
            names = tuple(part for part, rows in parts)
            for part, number, reason in papers(parts, names):
                self.assertIs(loud(parts, part, number), reason is None)

    def test_a_long_line_of_reasons(self):
        sets = ", ".join("set x{0} = x{1}".format(k, k - 1) for k in range(1, 959))
        parts = parts_of("part a, set x0 = 1, " + sets + ", say x958")
        # Each row is read by one other alone, so there is but one order.
        expected = (("a", 959, None),) + tuple(("a", k, ("a", k + 1)) for k in range(958, -1, -1))
        self.assertEqual(papers(parts, ("a",)), expected)

    def test_most_parts_and_rows(self):
        parts = largest()
        self.assertIsNone(check(parts))
        told = papers(parts, tuple(part for part, rows in parts[:12]))
        self.assertEqual(len(told), len(set(told)))
        self.assertEqual(len(told), sum(1 for part, rows in parts for row in rows if row[0] in WORK))


def told(parts):
    rows = [(part, number, row) for part, inner in parts for number, row in enumerate(inner)]
    names = [(part, number, name) for part, number, row in rows for word, name in read_names(row)]
    return (
        [sure(parts, part, number, name) for part, number, name in names],
        [loud(parts, part, number) for part, number, row in rows if row[0] in WORK],
        [papers(parts, (part,)) for part, inner in parts],
    )


class HandedIn(unittest.TestCase):
    def test_nothing_handed_in_is_changed_and_nothing_else_counts(self):
        hold_untouched(self, told)


if __name__ == "__main__":
    unittest.main()
