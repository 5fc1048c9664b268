import random
import unittest

from helper import (
    hold_untouched, is_endless, kinds, owned, parts_by_chance, parts_of, slow_maker, slow_step, sound_parts,
)

from bundlehouse.errors import BundleError, Endless, NoName, NoPart, NotGiven, Twice
from bundlehouse.net import asks, brings, check, maker, order
from bundlehouse.rows import read_names

# Names that go round a ring of parts more than once and end in a row.
ROUND = (
    "part a, bring b g as x, bring b h as y, give x as g, give y as h, take z, give z as i,"
    "part b, bring a h as x, bring a i as y, give x as g, give y as h"
)
# A name given on by several parts.
THROUGH = (
    "part a, bring b g as x, say x, part b, bring c g as y, give y as g, part c, bring d g as z, give z as g,"
    "part d, take w, give w as g"
)

# Parts that stand the check.
SOUND = (
    "",
    "part a",
    "part a, part b",
    "part a, take x, give x as x",
    # one name given under several, and the names of a part and what it gives don't meet
    "part a, take x, take y, give x as y, give y as x, give x as z",
    # the same names in two parts
    "part a, take x, give x as g, part b, take x, give x as g",
    # used above where it is made
    "part a, give x as g, say x when y, need x, set z = x, ask b when y, set x = z, take y, part b",
    "part a, set x = x",
    # a part brought in and asked for more than once, and ahead of where it stands
    "part a, bring b, bring b, ask b, ask b, part b",
    "part a, part b, bring a, ask a",
    # one given name brought in twice, under two names
    "part a, bring b g as x g as y, part b, take x, give x as g",
    "part a, bring b g as x, bring b g as y, part b, take x, give x as g",
    # rings of parts
    "part a, bring b, part b, bring a",
    "part a, bring b, part b, bring c, part c, ask a",
    "part a, bring b h as y, take x, give x as g, part b, bring a g as x, take y, give y as h",
    ROUND,
    THROUGH,
    # names that are called like parts
    "part a, take a, take b, bring b b as c, give b as b, part b, take b, give b as b, bring a b as a",
    # names that are words of rows
    "part part, take as, give as as as, set when = as, say when when when, part do, bring part as as set, need set",
)

# Parts that are refused: what with, the part and the row.
REFUSED = (
    # a part's name
    (Twice, "a", None, "part a, part a"),
    (Twice, "b", None, "part a, part b, part c, part b, part a"),
    (Twice, "a", None, "part a, take x, part a, take x, take x"),
    # a name made or brought in twice
    (Twice, "a", 1, "part a, take x, take x"),
    (Twice, "a", 1, "part a, take x, set x = 1"),
    (Twice, "a", 1, "part a, set x = 1, take x"),
    (Twice, "a", 2, "part a, set x = 1, say x, set x = 2"),
    (Twice, "a", 1, "part a, bring b g as x, take x, part b, take y, give y as g"),
    (Twice, "a", 1, "part a, bring b g as x, set x = 1, part b, take y, give y as g"),
    (Twice, "a", 1, "part a, take x, bring b g as x, part b, take y, give y as g"),
    (Twice, "a", 1, "part a, take x, bring b g as y g as x, part b, take y, give y as g"),
    (Twice, "a", 1, "part a, bring b g as x, bring b g as x, part b, take y, give y as g"),
    (Twice, "a", 0, "part a, bring b g as x g as x, part b, take y, give y as g"),
    (Twice, "a", 0, "part a, bring b g as x g as y h as x, part b, take y, give y as g, give y as h"),
    # a name given twice
    (Twice, "a", 2, "part a, take x, give x as g, give x as g"),
    (Twice, "a", 3, "part a, take x, give x as g, take y, give y as g"),
    (Twice, "b", 2, "part a, take x, give x as g, part b, take x, give x as g, give x as g"),
    # no such part, or the part itself
    (NoPart, "a", 0, "part a, bring b"),
    (NoPart, "a", 0, "part a, ask b"),
    (NoPart, "a", 1, "part a, take x, ask b when x"),
    (NoPart, "a", 0, "part a, bring a"),
    (NoPart, "a", 0, "part a, ask a"),
    (NoPart, "b", 1, "part a, part b, ask a, ask b"),
    (NoPart, "b", 1, "part a, part b, bring a, bring c g as x"),
    # no such name, for each place of one
    (NoName, "a", 0, "part a, set x = y"),
    (NoName, "a", 0, "part a, set x = 1 - x + y"),
    (NoName, "a", 0, "part a, say y"),
    (NoName, "a", 1, "part a, take x, say x when y"),
    (NoName, "a", 1, "part a, take x, say y when x"),
    (NoName, "a", 0, "part a, need y"),
    (NoName, "a", 0, "part a, ask b when y, part b"),
    (NoName, "a", 0, "part a, give y as x"),
    (NoName, "a", 1, "part a, take x, give y as x"),
    # what another part makes, or this one gives, is no name of this one
    (NoName, "b", 1, "part a, take x, give x as x, part b, bring a, say x"),
    (NoName, "b", 1, "part a, take x, give x as g, part b, bring a g as x, say g"),
    (NoName, "a", 2, "part a, take x, give x as g, say g"),
    (NoName, "a", 0, "part a, say a"),
    # not given: neither what the other part makes nor what it brings in
    (NotGiven, "a", 0, "part a, bring b x as x, part b, take x"),
    (NotGiven, "a", 0, "part a, bring b x as y, part b, take x, give x as g"),
    (NotGiven, "a", 0, "part a, bring b g as x h as y, part b, take x, give x as g"),
    (NotGiven, "a", 1, "part a, bring b g as x, bring c g as y, part b, take x, give x as g, part c, take x"),
    (NotGiven, "a", 0, "part a, bring b g as x, part b, bring c g as x, part c, take x, give x as g"),
    (NotGiven, "a", 1, "part a, take g, bring b g as x, give g as g, part b"),
)

# Of several that are due the first kind is told, wherever it stands; of one kind the first place.
ORDER = (
    (Twice, "b", None, "part a, bring z, say y, part b, part b"),
    (Twice, "a", 1, "part a, take x, take x, part a"),
    (Twice, "c", 1, "part a, ask a, say q, bring b g as x, part b, part c, take x, take x"),
    (Twice, "a", 2, "part a, bring a, take x, take x, give x as g, give x as g"),
    (Twice, "a", 2, "part a, take x, give x as g, give x as g, take x"),
    (Twice, "b", 1, "part a, bring b g as x, give x as g, part b, bring a g as x, take x, give x as g"),
    (NoPart, "b", 0, "part a, say y, part b, ask c"),
    (NoPart, "a", 2, "part a, say y, bring b g as x, ask a, part b"),
    (NoPart, "a", 1, "part a, take x, bring c, ask c, part b, bring b"),
    (NoPart, "c", 0, "part a, bring b g as x, give x as g, part b, bring a g as x, give x as g, part c, ask d"),
    (NoName, "b", 0, "part a, bring b g as x, part b, say y"),
    (NoName, "a", 1, "part a, bring b g as x, say y, give z as h, part b, say y"),
    (NoName, "c", 0, "part a, bring b g as x, give x as g, part b, bring a g as x, give x as g, part c, need d"),
    (NotGiven, "c", 0,
     "part a, bring b g as x, give x as g, part b, bring a g as x, give x as g, part c, bring a q as x"),
    (NotGiven, "b", 1, "part a, part b, bring a, bring a g as x, bring a h as y, part c, bring a g as x"),
)

# Rings of names, with the parts that lie in them.
ENDLESS = (
    (2, "part a, bring b g as x, give x as g, part b, bring a g as x, give x as g"),
    (2, "part a, bring b g as x, give x as h, part b, bring a h as y, give y as g"),
    # a way that leads into the ring is not in it
    (2, "part c, bring a g as x, part a, bring b g as x, give x as g, part b, bring a g as x, give x as g"),
    (2, "part d, bring c g as w, part c, bring a g as x, give x as g,"
        "part a, bring b g as x, give x as g, part b, bring a g as x, give x as g"),
    (3, "part a, bring b g as x, give x as g, part b, bring c g as x, give x as g,"
        "part c, bring a g as x, give x as g"),
    # four names round two parts
    (4, "part a, bring b g as x h as y, give x as g, give y as h,"
        "part b, bring a h as x g as y, give x as g, give y as h"),
    # beside names that a row makes, and rings of parts without one of names
    (2, "part a, bring b g as x, give x as g, take y, give y as h,"
        "part b, bring a g as x h as y, give x as g, part c, bring d, part d, bring c"),
)


def refusal(parts):
    try:
        return check(parts)
    except BundleError as error:
        return error


def place(error):
    return (type(error), error.part, error.row)


def next_pair(parts, pair):
    kind, part, name = slow_step(parts, pair[0], pair[1])
    return (part, name) if kind == "name" else None


def slow_check(parts):
    """What is to be refused, by the document's words; Endless without its way."""
    for k, (part, rows) in enumerate(parts):
        if part in [name for name, inner in parts[:k]]:
            return (Twice, part, None)
        for number, row in enumerate(rows):
            names = owned(rows[:number + 1])
            givens = [inner[2] for inner in rows[:number + 1] if inner[0] == "give"]
            if len(set(names)) < len(names) or len(set(givens)) < len(givens):
                return (Twice, part, number)
    for wrong, kind in ((no_part, NoPart), (no_name, NoName), (not_given, NotGiven)):
        for part, rows in parts:
            for number, row in enumerate(rows):
                if wrong(dict(parts), part, row):
                    return (kind, part, number)
    return (Endless,) if is_endless(parts) else None


def no_part(by_name, part, row):
    return row[0] in ("bring", "ask") and (row[1] == part or row[1] not in by_name)


def no_name(by_name, part, row):
    used = [row[1]] if row[0] == "give" else [name for word, name in read_names(row)]
    return any(name not in owned(by_name[part]) for name in used)


def not_given(by_name, part, row):
    if row[0] != "bring":
        return False
    givens = [other[2] for other in by_name[row[1]] if other[0] == "give"]
    return any(given not in givens for given, own in row[2])


def spoiled_word(chance, value):
    """The same with some of its texts changed to other names and parts."""
    if isinstance(value, tuple):
        return tuple(spoiled_word(chance, inner) for inner in value)
    if isinstance(value, str) and chance.random() < 0.06:
        return chance.choice(("x", "y", "z", "g0", "g1", "p0", "p1", "p2"))
    return value


def spoiled(seed):
    chance = random.Random(seed)
    parts = []
    for part, rows in parts_by_chance(seed, 4):
        changed = tuple(row[:1] + spoiled_word(chance, row[1:]) if chance.random() < 0.3 else row for row in rows)
        parts.append((part if chance.random() < 0.95 else "p0", changed))
    return tuple(parts)


class Check(unittest.TestCase):
    def hold_way(self, parts, way):
        self.assertIs(type(way), tuple)
        self.assertEqual(set(kinds(way)), {(str, str)})
        self.assertGreaterEqual(len(way), 2)
        self.assertEqual(len(set(way)), len(way))
        for pair, following in zip(way, way[1:] + way[:1]):
            self.assertEqual(next_pair(parts, pair), following)

    def test_sound(self):
        for text in SOUND:
            with self.subTest(text):
                self.assertIsNone(check(parts_of(text)))

    def test_refused(self):
        for kind, part, row, text in REFUSED + ORDER:
            with self.subTest(text):
                error = refusal(parts_of(text))
                self.assertEqual(place(error), (kind, part, row))
                self.assertIs(type(error.part), str)
                self.assertIn(type(error.row), (int, type(None)))

    def test_each_row_number(self):
        for wrong, kind in (("take x", Twice), ("ask b", NoPart), ("say y", NoName), ("bring c g as z", NotGiven)):
            for number in range(1, 40):
                text = "part c, part a, take x" + ", say x" * (number - 1) + ", " + wrong + ", say x"
                self.assertEqual(place(refusal(parts_of(text))), (kind, "a", number))

    def test_endless(self):
        for size, text in ENDLESS:
            with self.subTest(text):
                parts = parts_of(text)
                error = refusal(parts)
                self.assertIs(type(error), Endless)
                self.hold_way(parts, error.way)
                self.assertEqual(len(error.way), size)
                self.assertFalse(hasattr(error, "part") or hasattr(error, "row"))

    def test_endless_round_many_parts(self):
        for size in (2, 3, 24, 300):
            part = "part p{0}, bring p{1} g as x{2}, give x{2} as g"
            parts = parts_of(", ".join(part.format(k, (k + 1) % size, k % 7) for k in range(size)))
            way = refusal(parts).way
            self.hold_way(parts, way)
            self.assertEqual(len(way), size)

    def test_two_rings(self):
        one = "part {0}, bring {1} g as x, give x as g, part {1}, bring {0} g as x, give x as g"
        parts = parts_of(one.format("a", "b") + "," + one.format("c", "d"))
        self.hold_way(parts, refusal(parts).way)

    def test_a_row_that_makes_it_ends_the_ring(self):
        endless = "part a, bring b g as x, give x as g, part b, bring a g as y, give y as g"
        self.assertIs(type(refusal(parts_of(endless))), Endless)
        self.assertIsNone(refusal(parts_of(endless.replace("bring b g as x", "bring b, take x"))))
        self.assertIsNone(refusal(parts_of(endless.replace("bring a g as y", "bring a, set y = y"))))

    def test_by_chance(self):
        told = []
        for seed in range(1500):
            parts = spoiled(seed)
            error = refusal(parts)
            expected = slow_check(parts)
            told.append(type(error))
            with self.subTest(seed):
                if isinstance(error, Endless):
                    self.assertEqual(expected, (Endless,))
                    self.hold_way(parts, error.way)
                else:
                    self.assertEqual(None if error is None else place(error), expected)
        for kind in (type(None), Twice, NoPart, NoName, NotGiven, Endless):
            self.assertGreater(told.count(kind), 10, kind)

    def test_a_refusal_leaves_nothing_behind(self):
        for text in SOUND:
            for kind, part, row, wrong in REFUSED[::7]:
                refusal(parts_of(wrong))
            self.assertIsNone(check(parts_of(text)))


class Makers(unittest.TestCase):
    def test_made_by_a_row(self):
        parts = parts_of("part a, say x, take x, set y = x, part b, say 1, set x = 2")
        self.assertEqual(maker(parts, "a", "x"), ("a", 1))
        self.assertEqual(maker(parts, "a", "y"), ("a", 2))
        self.assertEqual(maker(parts, "b", "x"), ("b", 1))

    def test_brought_in_through_one_part(self):
        parts = parts_of("part a, bring b h as x g as y, part b, give y as h, take x, take y, give x as g")
        self.assertEqual(maker(parts, "a", "x"), ("b", 2))
        self.assertEqual(maker(parts, "a", "y"), ("b", 1))

    def test_brought_in_through_several(self):
        parts = parts_of(THROUGH)
        for part, name in (("a", "x"), ("b", "y"), ("c", "z"), ("d", "w")):
            self.assertEqual(maker(parts, part, name), ("d", 0))

    def test_round_a_ring_of_parts(self):
        parts = parts_of(ROUND)
        for part, name in (("a", "x"), ("b", "x"), ("a", "y"), ("b", "y"), ("a", "z")):
            self.assertEqual(maker(parts, part, name), ("a", 4))

    def test_kinds(self):
        for parts in sound_parts(60):
            for part, rows in parts:
                for name in owned(rows):
                    self.assertEqual(kinds(maker(parts, part, name)), (str, int))

    def test_by_chance(self):
        for parts in sound_parts(300):
            for part, rows in parts:
                for name in owned(rows):
                    self.assertEqual(maker(parts, part, name), slow_maker(parts, part, name))

    def test_through_many_parts(self):
        rows = ["part p{0}, bring p{1} g as x, give x as g".format(k, k + 1) for k in range(300)]
        parts = parts_of(", ".join(rows) + ", part p300, say 1, take y, give y as g")
        self.assertIsNone(check(parts))
        self.assertEqual(maker(parts, "p0", "x"), ("p300", 1))


class BringsAndAsks(unittest.TestCase):
    def test_each_once_in_the_rows_order(self):
        parts = parts_of("part a, ask d, bring c, ask b, bring b, bring c, bring b, ask d, ask c,"
                         "part b, part c, part d")
        self.assertEqual(brings(parts, "a"), ("c", "b"))
        self.assertEqual(asks(parts, "a"), ("d", "b", "c"))
        self.assertEqual(brings(parts, "b"), ())
        self.assertEqual(asks(parts, "d"), ())

    def test_with_pairs_and_when(self):
        parts = parts_of("part b, take x, give x as g, part a, ask b when y, bring b g as y, bring b g as z, ask b")
        self.assertEqual(brings(parts, "a"), ("b",))
        self.assertEqual(asks(parts, "a"), ("b",))

    def test_by_chance(self):
        for parts in sound_parts(100):
            for part, rows in parts:
                for told, kind in ((brings(parts, part), "bring"), (asks(parts, part), "ask")):
                    self.assertEqual(told, tuple(dict.fromkeys(row[1] for row in rows if row[0] == kind)))
                    self.assertEqual(kinds(told), (str,) * len(told))


def slow_order(parts, part, begun):
    if part not in begun:
        begun.append(part)
        for row in dict(parts)[part]:
            if row[0] == "bring":
                slow_order(parts, row[1], begun)
    return tuple(begun)


class Order(unittest.TestCase):
    def test_orders(self):
        for root, expected, text in (
            ("a", "a", "part a"),
            ("b", "b", "part a, part b"),
            ("a", "abc", "part a, bring b, bring c, part b, part c"),
            ("a", "acb", "part a, bring c, bring b, part b, part c"),
            # a part's own come ahead of the next one
            ("a", "abdc", "part a, bring b, bring c, part b, bring d, part c, part d"),
            # begun by the first that brings it in
            ("a", "abcd", "part a, bring b, bring c, part b, bring c, part c, bring d, part d"),
            ("a", "acbd", "part a, bring c, bring b, bring d, bring c, part b, bring c, part c, bring b, part d"),
            # brought in by several rows
            ("a", "abc", "part a, bring b, bring b, bring c, bring b, part b, part c"),
            # rings
            ("a", "abc", "part a, bring b, part b, bring c, part c, bring a"),
            ("b", "bca", "part a, bring b, part b, bring c, part c, bring a"),
            ("c", "cab", "part a, bring b, part b, bring c, bring a, part c, bring a, bring b"),
            # ask rows begin nothing
            ("a", "ac", "part a, ask b, bring c, part b, part c, ask b"),
            # above a fault or not, with whatever when
            ("a", "ab", "part a, say x, need 0, ask c when x, bring b, take x, part b, part c"),
        ):
            with self.subTest(text):
                parts = parts_of(text)
                self.assertIsNone(check(parts))
                self.assertEqual(order(parts, root), tuple(expected))

    def test_by_chance(self):
        for parts in sound_parts(300, 8):
            for part, rows in parts:
                told = order(parts, part)
                self.assertEqual(told, slow_order(parts, part, []))
                self.assertEqual(kinds(told), (str,) * len(told))

    def test_many_parts_in_a_line(self):
        rows = ["part p{0}, bring p{1}".format(k, k + 1) for k in range(400)]
        parts = parts_of(", ".join(rows) + ", part p400")
        self.assertEqual(order(parts, "p0"), tuple("p" + str(k) for k in range(401)))


def told(parts):
    around = [(brings(parts, part), asks(parts, part), order(parts, part)) for part, rows in parts]
    return (check(parts), around, [maker(parts, part, name) for part, rows in parts for name in owned(rows)])


def told_of_wrong(text):
    """The refusal's kind and fields, and whether the parts stayed as they were."""
    parts = parts_of(text)
    before = repr(parts)
    error = refusal(parts)
    return (type(error), vars(error), repr(parts) == before)


class HandedIn(unittest.TestCase):
    def test_nothing_handed_in_is_changed_and_nothing_else_counts(self):
        hold_untouched(self, told)

    def test_of_refused_parts_likewise(self):
        texts = [text for kind, part, row, text in REFUSED + ORDER] + [text for size, text in ENDLESS]
        first = [told_of_wrong(text) for text in texts]
        self.assertTrue(all(same for kind, fields, same in first))
        self.assertEqual([told_of_wrong(text) for text in texts[::-1]][::-1], first)


if __name__ == "__main__":
    unittest.main()
