import unittest

from helper import (
    figured, hold_untouched, kinds, largest, led_back, parts_of, places, slow_pairs, sound_parts, told_numbers,
    without_asks,
)

from bundlehouse.errors import Asks, BundleError
from bundlehouse.flat import flat
from bundlehouse.names import new_names, renamed
from bundlehouse.net import check, order
from bundlehouse.rows import shown_row
from bundlehouse.run import run
from bundlehouse.thinned import thinned

# Root, origins, the flat rows, parts.
FLAT = (
    ("a", "", "", "part a"),
    ("a", "", "", "part a, bring b, part b, bring c, part c, bring a, part d, take x, bring a"),
    ("a", "b1", "take y", "part a, give x as g, bring b h as x, part b, give y as h, take y, part c, take x"),
    # one part: each kind of row, in its order
    ("a", "a0", "say 1", "part a, say 1"),
    ("a", "a0 a1 a2 a3 a5", "take x, set y = x - 1, need y, say x when y, say 3 - x + x",
     "part a, take x, set y = x - 1, need y, say x when y, give x as g, say 3 - x + x"),
    ("a", "a0 a1", "say x when x, take x", "part a, say x when x, take x"),
    # rows that nobody reads stay
    ("a", "a0 a1", "set x = 1, set y = x", "part a, set x = 1, set y = x"),
    # several parts: those brought in where their bring row stands
    ("a", "a0 b0 a2", "say 1, say 2, say 3", "part a, say 1, bring b, say 3, part b, say 2"),
    ("a", "c0 b1 a1", "say 1, say 2, say 3", "part a, bring b, say 3, part b, bring c, say 2, part c, say 1"),
    ("a", "a0 b0 a2 c0 a4", "say 1, say 2, say 3, say 4, say 5",
     "part c, say 4, part a, say 1, bring b, say 3, bring c, say 5, part b, say 2"),
    # only the parts that it comes to
    ("b", "b0", "say 2", "part a, say 1, bring b, part b, say 2, part c, say 3"),
    # brought in by several rows, of one part and of several: once, by the first
    ("a", "b0 a1 a3", "say 2, say 1, say 3", "part a, bring b, say 1, bring b, say 3, part b, say 2"),
    ("a", "c0 b1 a2", "say 1, say 2, say 3",
     "part a, bring b, bring c, say 3, part b, bring c, say 2, part c, say 1"),
    ("a", "d0 b1 c1 a2", "say 4, say 2, say 3, say 1",
     "part a, bring b, bring c, say 1, part b, bring d, say 2, part c, bring d, say 3, part d, say 4"),
    # rings, from each of their parts
    ("a", "a0 b0 b2 a2", "say 1, say 2, say 3, say 4", "part a, say 1, bring b, say 4, part b, say 2, bring a, say 3"),
    ("b", "b0 a0 a2 b2", "say 2, say 1, say 4, say 3", "part a, say 1, bring b, say 4, part b, say 2, bring a, say 3"),
    ("b", "b0 c1 a1 b2", "say 2, say 3, say 1, say 4",
     "part a, bring b, say 1, part b, say 2, bring c, say 4, part c, bring b, say 3, bring a"),
    # new names: those of the makers, by the order of the parts, not of the rows
    ("a", "b0 a1 a2", "take x2, take x, say x", "part a, bring b, take x, say x, part b, take x"),
    ("a", "b0 a1", "take y, say y", "part a, bring b g as x, say x, part b, take y, give y as g"),
    ("a", "c0 a1", "take z, say z when z",
     "part a, bring b g as x, say x when x, part b, bring c h as y, give y as g, part c, take z, give z as h"),
    ("a", "b0 a1", "set y2 = 5, set y = y2",
     "part a, bring b g as x, set y = x, part b, set y = 5, give y as g"),
    # of all parts, also of those that it does not come to
    ("b", "b0 b1", "take x3, say x3", "part a, take x, part c, take x, part b, take x, say x"),
    ("a", "a0 a1", "take x3, say x3", "part c, take x, part a, take x, say x, part b, take x2"),
    # an ask row in a part that the root does not come to by bring rows
    ("a", "a0", "say 1", "part a, say 1, part b, ask a"),
    ("b", "c0 b1", "say 3, say 2", "part a, bring b, ask c, part b, bring c, say 2, part c, say 3"),
)

# Root, part, row of the refusal, parts.
ASKS = (
    ("a", "a", 0, "part a, ask b, part b"),
    ("a", "a", 2, "part a, take x, say x, ask b when x, say 1, part b"),
    ("a", "a", 1, "part a, set x = 0, ask b when x, ask b, part b"),
    ("a", "b", 1, "part a, bring b, say 1, part b, say 2, ask c, part c"),
    ("a", "b", 0, "part a, bring b, part b, ask a"),
    ("a", "c", 0, "part a, bring b, part b, bring c, part c, ask a"),
    # several: by the begun order, not by the parts', nor by that in which a run comes to the rows
    ("a", "a", 1, "part a, bring b, ask c, part b, ask c, part c"),
    ("a", "a", 1, "part b, ask c, part c, part a, bring b, ask c"),
    ("a", "c", 0, "part b, ask a, part a, bring c, bring b, part c, ask a"),
    ("a", "b", 1, "part a, bring b, bring c, part c, ask a, part b, bring c, ask a"),
    ("a", "d", 0, "part a, bring b, bring c, part b, bring d, part c, ask a, part d, ask a"),
    ("c", "c", 1, "part a, bring b, ask b, part b, bring c, part c, bring a, ask b"),
    ("b", "c", 1, "part a, ask b, part b, bring c, part c, bring a, ask b"),
)


def slow_places(parts, part, begun):
    """The places of the work, with a call for each part that is begun."""
    if part in begun:
        return []
    begun.append(part)
    found = []
    for number, row in enumerate(dict(parts)[part]):
        if row[0] == "bring":
            found.extend(slow_places(parts, row[1], begun))
        elif row[0] != "give":
            found.append((part, number))
    return found


def first_ask(parts, root):
    for part in order(parts, root):
        for number, row in enumerate(dict(parts)[part]):
            if row[0] == "ask":
                return (part, number)
    return None


def all_parts(count):
    found = sound_parts(count)
    found = found + [without_asks(parts) for parts in found]
    return found + [figured(parts, seed) for seed, parts in enumerate(found)]


def told_or_asks(parts, root):
    try:
        return flat(parts, root)
    except Asks as refusal:
        return ("asks", refusal.part, refusal.row)


class Flat(unittest.TestCase):
    def hold_kinds(self, parts, told):
        rows, origins = told
        self.assertEqual((type(told), type(rows), type(origins)), (tuple, tuple, tuple))
        self.assertEqual(kinds(rows), tuple(kinds(dict(parts)[part][number]) for part, number in origins))
        self.assertEqual(kinds(origins), ((str, int),) * len(rows))

    def test_each_case(self):
        for root, origins, rows, text in FLAT:
            with self.subTest(text=text, root=root):
                parts = parts_of(text)
                self.assertIsNone(check(parts))
                told = flat(parts, root)
                self.assertEqual(", ".join(shown_row(row) for row in told[0]), rows)
                self.assertEqual(told[1], tuple(places(origins)))
                self.assertEqual(told[1], tuple(slow_places(parts, root, [])))
                self.hold_kinds(parts, told)

    def test_by_chance(self):
        lengths = []
        for parts in all_parts(200):
            for root, inner in parts:
                if first_ask(parts, root) is None:
                    told = flat(parts, root)
                    self.assertEqual(told[1], tuple(slow_places(parts, root, [])))
                    self.assertEqual(told[0], tuple(renamed(parts, part, number) for part, number in told[1]))
                    self.hold_kinds(parts, told)
                    lengths.append(len({part for part, number in told[1]}))
        for parts_in_one in (1, 2, 3, 4):
            self.assertGreater(lengths.count(parts_in_one), 20)

    def test_the_rows_stand_the_check_and_are_flat(self):
        for parts in all_parts(150):
            for root, inner in parts:
                if first_ask(parts, root) is None:
                    rows = flat(parts, root)[0]
                    one = (("one", rows),)
                    self.assertIsNone(check(one))
                    self.assertEqual(flat(one, "one"), (rows, tuple(("one", number) for number in range(len(rows)))))

    def test_of_thinned_parts(self):
        for parts in all_parts(60):
            for root, inner in parts:
                thin = thinned(parts, (root,))[0]
                if first_ask(thin, root) is None:
                    rows, origins = flat(thin, root)
                    self.assertEqual(origins, tuple(slow_places(thin, root, [])))
                    self.assertEqual(rows, tuple(renamed(thin, part, number) for part, number in origins))


class Refused(unittest.TestCase):
    def test_each_case(self):
        for root, part, row, text in ASKS:
            with self.subTest(text=text, root=root):
                parts = parts_of(text)
                self.assertIsNone(check(parts))
                with self.assertRaises(Asks) as taken:
                    flat(parts, root)
                self.assertIsInstance(taken.exception, BundleError)
                self.assertEqual((taken.exception.part, taken.exception.row), (part, row))
                self.assertEqual(kinds((taken.exception.part, taken.exception.row)), (str, int))

    def test_by_chance(self):
        refused = []
        for parts in sound_parts(300):
            come = slow_pairs(parts, ("bring",))
            for root, inner in parts:
                found = first_ask(parts, root)
                told = told_or_asks(parts, root)
                refused.append(found is not None)
                if found is None:
                    self.assertNotEqual(told[0], "asks")
                else:
                    self.assertEqual(told, ("asks",) + found)
                asking = [part for part, rows in parts if (root, part) in come and "ask" in [row[0] for row in rows]]
                self.assertEqual(bool(asking), refused[-1])
        self.assertGreater(refused.count(True), 100)
        self.assertGreater(refused.count(False), 100)


# Root, told numbers, the fault or None, parts.
RUNS = (
    ("a", (4, 7), None, "part a, take x, bring b g as y, say x - y, part b, take x, give x as g"),
    ("a", (4, 7), None, "part a, bring b g as y, take x, say x - y when y, part b, take x, give x as g"),
    ("a", (-4, 7), None, "part a, bring b g as y, take x, say x - y when y, part b, take x, give x as g"),
    ("a", (4, 7), ("need", "b", 1, 0), "part a, take x, bring b g as y, say x,"
                                       "part b, take x, need x - 7, give x as g"),
    ("a", (4, 7), ("early", "b", 1, 5), "part a, take x, bring b, set w = 1, give w as g,"
                                        "part b, bring a g as y, say 1 + 2 - y"),
    ("b", (4, 7), None, "part a, take x, bring b, set w = 1, give w as g, part b, bring a g as y, say 1 + 2 - y"),
    ("a", (4,), ("early", "a", 0, 3), "part a, say 1 when x, bring b g as x, part b, take x, give x as g"),
    ("a", (), ("early", "a", 0, 3), "part a, set x = x"),
)


class RunAlike(unittest.TestCase):
    def hold_alike(self, parts, root, numbers):
        rows, origins = flat(parts, root)
        told = run(parts, root, numbers)
        found = {("one", number): place for number, place in enumerate(origins)}
        self.assertEqual(led_back(run((("one", rows),), "one", numbers), found), told)
        return told

    def test_each_case(self):
        for root, numbers, fault, text in RUNS:
            with self.subTest(text=text, root=root, numbers=numbers):
                parts = parts_of(text)
                self.assertIsNone(check(parts))
                self.assertEqual(self.hold_alike(parts, root, numbers)[1], fault)

    def test_by_chance(self):
        faults = []
        for seed, parts in enumerate(all_parts(150)):
            for root, inner in parts:
                if first_ask(parts, root) is None:
                    for numbers in told_numbers(seed):
                        faults.append(self.hold_alike(parts, root, numbers)[1])
        kinds_of_faults = [fault and fault[0] for fault in faults]
        for kind in (None, "early", "need"):
            self.assertGreater(kinds_of_faults.count(kind), 100, kind)

    def test_most_parts_and_rows(self):
        parts = largest()
        self.hold_alike(parts, "p0", (1, 2, 3, 4, 5, 6))
        self.assertGreater(len(flat(parts, "p0")[0]), 700)

    def test_many_rows_with_long_names(self):
        parts = wide()
        self.assertIsNone(check(parts))
        rows, origins = flat(parts, "p0")
        self.assertEqual(len(rows), 937)
        self.assertIn("longna3923", [new for part, own, new in new_names(parts)])
        self.hold_alike(parts, "p0", tuple(range(300)))
        one = (("one", rows),)
        self.assertIsNone(check(one))
        self.assertEqual(flat(one, "one")[0], rows)

    def test_960_rows_of_one_part(self):
        takes = ", ".join("take x" + str(k) for k in range(480))
        parts = parts_of("part a, " + takes + ", " + ", ".join("say x" + str(k) for k in range(480)))
        self.assertEqual(flat(parts, "a"), (parts[0][1], tuple(("a", number) for number in range(960))))
        self.hold_alike(parts, "a", tuple(range(300)))

    def test_many_parts_in_a_line(self):
        line = ["part p{0}, bring p{1}, take x, say x".format(k, k + 1) for k in range(300)]
        self.hold_alike(parts_of(", ".join(line) + ", part p300, take x, say x"), "p0", tuple(range(300)))


def wide():
    """As many parts of as many rows as may be, all brought in by the first, with the same names of eight signs."""
    names = ["longna" + str(k) for k in range(10, 50)]
    brought = tuple(("bring", "p" + str(k), ()) for k in range(1, 24))
    parts = [("p0", brought + tuple(("take", name) for name in names[:17]))]
    for k in range(1, 24):
        sets = tuple(("set", name, ((1, names[0]), (1, k))) for name in names[1:])
        parts.append(("p" + str(k), (("take", names[0]),) + sets))
    return tuple(parts)


def told(parts):
    return [told_or_asks(parts, root) for root, rows in parts] + [flat(without_asks(parts), parts[0][0])]


class HandedIn(unittest.TestCase):
    def test_nothing_handed_in_is_changed_and_nothing_else_counts(self):
        hold_untouched(self, told)


if __name__ == "__main__":
    unittest.main()
