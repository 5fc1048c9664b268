import unittest

from helper import hold_untouched, kinds, owned, parts_of, slow_maker, sound_parts

from bundlehouse.net import check
from bundlehouse.rows import words_of
from bundlehouse.run import PartsWalk, Walk, run

LONG = int("9" * 60)

# Root, told numbers, deeds, fault, parts.
RUNS = (
    ("a", (), (), None, "part a"),
    ("a", (5,), (), None, "part a"),
    # set and say
    ("a", (), (("say", 7, "a", 0),), None, "part a, say 7"),
    ("a", (), (("say", 5, "a", 2),), None, "part a, set x = 7, set y = 1, say x - y - y"),
    ("a", (), (("say", -9, "a", 1),), None, "part a, set x = 3, say 0 - x - x - x"),
    ("a", (), (("say", 8, "a", 3),), None, "part a, set x = 1 + 1, set y = x + x, set z = y + y, say z"),
    ("a", (), (("say", 3, "a", 0),), None, "part a, say 1 + 2 - 3 + 4 - 5 + 4"),
    # take, in order, and 0 where none is left
    ("a", (4, -5), (("take", 4, "a", 0), ("take", -5, "a", 1), ("say", 9, "a", 2)), None,
     "part a, take x, take y, say x - y"),
    ("a", (4,), (("take", 4, "a", 0), ("take", 0, "a", 1), ("take", 0, "a", 2), ("say", 4, "a", 3)), None,
     "part a, take x, take y, take z, say x + y + z"),
    ("a", (), (("take", 0, "a", 0),), None, "part a, take x"),
    ("a", (1, 2, 3), (("take", 1, "a", 0),), None, "part a, take x"),
    ("a", (0, 7), (("take", 0, "a", 0), ("take", 7, "a", 1)), None, "part a, take x, take y"),
    # long numbers
    ("a", (LONG, -LONG), (("take", LONG, "a", 0), ("take", -LONG, "a", 1), ("say", 4 * LONG, "a", 2)), None,
     "part a, take x, take y, say x - y + x - y"),
    # need
    ("a", (), (("say", 1, "a", 1),), None, "part a, need 1, say 1"),
    ("a", (), (), ("need", "a", 0, 0), "part a, need 0, say 1"),
    ("a", (), (), ("need", "a", 0, 0), "part a, need 1 - 2, say 1"),
    ("a", (3,), (("take", 3, "a", 0), ("say", 2, "a", 2)), None, "part a, take x, need x - 2, say 2"),
    ("a", (2,), (("take", 2, "a", 0),), ("need", "a", 1, 0), "part a, take x, need x - 2, say 2"),
    # when above 0, 0, below 0
    ("a", (1,), (("take", 1, "a", 0), ("say", 5, "a", 1)), None, "part a, take x, say 5 when x"),
    ("a", (0,), (("take", 0, "a", 0),), None, "part a, take x, say 5 when x"),
    ("a", (-1,), (("take", -1, "a", 0),), None, "part a, take x, say 5 when x"),
    ("a", (1,), (("take", 1, "a", 0), ("say", 8, "b", 0)), None, "part a, take x, ask b when x, part b, say 8"),
    ("a", (0,), (("take", 0, "a", 0),), None, "part a, take x, ask b when x, part b, say 8"),
    ("a", (-1,), (("take", -1, "a", 0),), None, "part a, take x, ask b when x, part b, say 8"),
    ("a", (), (("say", 1, "a", 1),), None, "part a, set when = 1, say when when when"),
    # not done, it does not begin the part, which may be begun later
    ("a", (0, 1), (("take", 0, "a", 0), ("take", 1, "a", 1), ("say", 8, "b", 0), ("say", 2, "a", 4)), None,
     "part a, take x, take y, ask b when x, ask b when y, say 2, part b, say 8"),
    # where a when is not above 0, the sum is not read
    ("a", (), (("say", 2, "a", 2),), None, "part a, set x = 0, say y when x, say 2, set y = 1"),
    # bring and ask begin the other part, and go on behind its last row
    ("a", (), (("say", 1, "a", 0), ("say", 2, "b", 0), ("say", 3, "a", 2)), None,
     "part a, say 1, bring b, say 3, part b, say 2"),
    ("a", (), (("say", 1, "a", 0), ("say", 2, "b", 0), ("say", 3, "a", 2)), None,
     "part a, say 1, ask b, say 3, part b, say 2"),
    ("a", (), (("say", 1, "c", 0), ("say", 2, "b", 1), ("say", 3, "a", 1)), None,
     "part a, bring b, say 3, part b, ask c, say 2, part c, say 1"),
    # no other part is begun
    ("b", (), (("say", 2, "b", 0),), None, "part a, bring b, say 3, part b, say 2, part c, say 1"),
    # begun once: brought in twice, asked for twice, both
    ("a", (), (("say", 2, "b", 0), ("say", 3, "a", 2)), None, "part a, bring b, bring b, say 3, part b, say 2"),
    ("a", (), (("say", 2, "b", 0), ("say", 3, "a", 2)), None, "part a, ask b, ask b, say 3, part b, say 2"),
    ("a", (), (("say", 2, "b", 0), ("say", 3, "a", 2)), None, "part a, bring b, ask b, say 3, part b, say 2"),
    ("a", (), (("say", 2, "b", 0), ("say", 3, "a", 2)), None, "part a, ask b, bring b, say 3, part b, say 2"),
    ("a", (), (("say", 1, "c", 0), ("say", 2, "b", 1), ("say", 3, "a", 2)), None,
     "part a, bring b, bring c, say 3, part b, bring c, say 2, part c, say 1"),
    # rings: a part that is amid its rows is not begun again
    ("a", (), (("say", 1, "a", 0), ("say", 2, "b", 0), ("say", 3, "b", 2), ("say", 4, "a", 2)), None,
     "part a, say 1, bring b, say 4, part b, say 2, bring a, say 3"),
    ("a", (), (("say", 1, "a", 0), ("say", 2, "b", 0), ("say", 3, "b", 2), ("say", 4, "a", 2)), None,
     "part a, say 1, ask b, say 4, part b, say 2, ask a, say 3"),
    ("b", (), (("say", 2, "b", 0), ("say", 1, "a", 0), ("say", 4, "a", 2), ("say", 3, "b", 2)), None,
     "part a, say 1, bring b, say 4, part b, say 2, bring a, say 3"),
    # a name has what its maker gave it, through however many parts
    ("a", (6,), (("take", 6, "c", 0), ("say", 6, "a", 1)), None,
     "part a, bring b g as x, say x, part b, bring c h as y, give y as g, part c, take z, give z as h"),
    # the same name in two parts is two
    ("a", (), (("say", 1, "b", 1), ("say", 2, "a", 2)), None,
     "part a, set x = 2, bring b, say x, part b, set x = 1, say x"),
    # a name that is called like a part
    ("a", (5,), (("take", 5, "a", 0), ("say", 5, "a", 2), ("say", 1, "b", 1)), None,
     "part a, take b, set a = b, say a when b, bring b, part b, set a = 1, say a"),
    # a give row does nothing, also above where its name is made
    ("a", (), (("say", 1, "a", 2),), None, "part a, give x as g, set x = 1, say x"),
    # early: made below, made by itself, brought in below
    ("a", (), (), ("early", "a", 0, 1), "part a, say x, set x = 1"),
    ("a", (), (), ("early", "a", 0, 3), "part a, set x = x"),
    ("a", (), (), ("early", "a", 0, 1), "part a, say x, bring b g as x, part b, set y = 1, give y as g"),
    # the maker's part was begun otherwise, so the name has its value above its bring row
    ("a", (), (("say", 1, "a", 1),), None, "part a, ask b, say x, bring b g as x, part b, set y = 1, give y as g"),
    # early in a ring, where the other part is amid its rows
    ("a", (), (), ("early", "b", 1, 1),
     "part a, bring b, set x = 1, give x as g, part b, bring a g as y, say y"),
    ("b", (), (("say", 1, "b", 1),), None,
     "part a, bring b, set x = 1, give x as g, part b, bring a g as y, say y"),
    # each word number: in a set, say, need, ask row
    ("a", (), (), ("early", "a", 1, 5), "part a, set x = 1, set z = x + y, set y = 1"),
    ("a", (), (), ("early", "a", 0, 13), "part a, set z = 1 + 2 - 3 + 4 - 5 + y, set y = 1"),
    ("a", (), (), ("early", "a", 1, 3), "part a, set x = 1, say x - y + y, set y = 1"),
    ("a", (), (), ("early", "a", 0, 11), "part a, say 1 + 2 - 3 + 4 - 5 + y, set y = 1"),
    ("a", (), (), ("early", "a", 1, 5), "part a, set x = 1, need x - 1 - y, set y = 1"),
    ("a", (), (), ("early", "a", 0, 1), "part a, need y - y, set y = 1"),
    ("a", (), (), ("early", "a", 0, 3), "part a, ask b when y, set y = 1, part b, say 1"),
    ("a", (), (), ("early", "a", 0, 3), "part a, say 1 when y, set y = 1"),
    # the name behind when is read first, then the sum from the left
    ("a", (), (), ("early", "a", 0, 5), "part a, say x + z when y, set x = 1, set y = 1, set z = 1"),
    ("a", (), (), ("early", "a", 0, 3), "part a, say y when y, set y = 1"),
    ("a", (), (), ("early", "a", 1, 1), "part a, set y = 1, say x + z when y, set x = 1, set z = 1"),
    ("a", (), (), ("early", "a", 2, 3), "part a, set y = 1, set x = 1, say x + z when y, set z = 1"),
    # read ahead of the need's own fault
    ("a", (), (), ("early", "a", 0, 3), "part a, need 0 - y, set y = 1"),
    # behind a fault nothing is done, in no part
    ("a", (4,), (("say", 1, "a", 0),), ("need", "c", 0, 0),
     "part a, say 1, bring b, say 2, take x, part b, bring c, say 3, part c, need 0, say 4, ask d, part d, say 5"),
    ("a", (4,), (("say", 1, "a", 0),), ("early", "c", 0, 1),
     "part a, say 1, ask b, say 2, take x, part b, ask c, say 3, part c, need x, take x, say 4"),
)


class Halt(Exception):
    pass


class SlowRun:
    """A run by the document's words, with a call for each part that is begun."""

    def __init__(self, parts, numbers):
        self.parts = parts
        self.left = list(numbers)
        self.begun = []
        self.values = {}
        self.deeds = []

    def told(self, root):
        try:
            self.begin(root)
        except Halt as halt:
            return (tuple(self.deeds), halt.args)
        return (tuple(self.deeds), None)

    def begin(self, part):
        if part not in self.begun:
            self.begun.append(part)
            for number, row in enumerate(dict(self.parts)[part]):
                getattr(self, "do_" + row[0])(part, number, row)

    def read(self, part, number, row, word):
        key = slow_maker(self.parts, part, words_of(row)[word])
        if key not in self.values:
            raise Halt("early", part, number, word)
        return self.values[key]

    def sum(self, part, number, row, first):
        words = words_of(row)
        total = 0
        for word in range(first, len(words), 2):
            if words[word - 1] == "when" and word == len(words) - 1 and row[2] is not None:
                break
            value = int(words[word]) if words[word].isdigit() else self.read(part, number, row, word)
            total = total - value if words[word - 1] == "-" else total + value
        return total

    def is_on(self, part, number, row):
        return row[2] is None or self.read(part, number, row, len(words_of(row)) - 1) > 0

    def do_bring(self, part, number, row):
        self.begin(row[1])

    def do_give(self, part, number, row):
        pass

    def do_set(self, part, number, row):
        self.values[(part, number)] = self.sum(part, number, row, 3)

    def do_take(self, part, number, row):
        self.values[(part, number)] = self.left.pop(0) if self.left else 0
        self.deeds.append(("take", self.values[(part, number)], part, number))

    def do_say(self, part, number, row):
        if self.is_on(part, number, row):
            self.deeds.append(("say", self.sum(part, number, row, 1), part, number))

    def do_need(self, part, number, row):
        if self.sum(part, number, row, 1) <= 0:
            raise Halt("need", part, number, 0)

    def do_ask(self, part, number, row):
        if self.is_on(part, number, row):
            self.begin(row[1])


class Runs(unittest.TestCase):
    def hold_kinds(self, told):
        deeds, fault = told
        self.assertIs(type(told), tuple)
        self.assertIs(type(deeds), tuple)
        for deed in deeds:
            self.assertEqual(kinds(deed), (str, int, str, int))
        if fault is not None:
            self.assertEqual(kinds(fault), (str, str, int, int))

    def test_runs(self):
        for root, numbers, deeds, fault, text in RUNS:
            with self.subTest(text=text, root=root, numbers=numbers):
                parts = parts_of(text)
                self.assertIsNone(check(parts))
                told = run(parts, root, numbers)
                self.assertEqual(told, (deeds, fault))
                self.hold_kinds(told)
                self.assertEqual(SlowRun(parts, numbers).told(root), told)

    def test_by_chance(self):
        faults = []
        for seed, parts in enumerate(sound_parts(600)):
            for root, rows in parts:
                numbers = tuple((seed * 7 + k * k * 5) % 9 - 4 for k in range(seed % 12))
                told = run(parts, root, numbers)
                self.assertEqual(told, SlowRun(parts, numbers).told(root))
                self.hold_kinds(told)
                faults.append(told[1] and told[1][0])
        for kind in (None, "early", "need"):
            self.assertGreater(faults.count(kind), 50, kind)

    def test_many_rows_and_numbers(self):
        takes = ", ".join("take x" + str(k) for k in range(959))
        parts = parts_of("part a, " + takes + ", say x299 + x300")
        numbers = tuple(range(1, 301))
        deeds, fault = run(parts, "a", numbers)
        self.assertIsNone(fault)
        self.assertEqual([deed[1] for deed in deeds], list(numbers) + [0] * 659 + [300])

    def test_many_parts_in_a_line(self):
        rows = ["part p{0}, bring p{1}, say {0}".format(k, k + 1) for k in range(400)]
        parts = parts_of(", ".join(rows) + ", part p400, say 400")
        deeds, fault = run(parts, "p0", ())
        self.assertEqual([deed[1] for deed in deeds], list(range(400, -1, -1)))
        self.assertIsNone(fault)

    def test_new_names_of_more_than_eight_signs(self):
        parts = (("a", (("take", "abcdefgh12"), ("say", ((1, "abcdefgh12"),), "abcdefgh12"))),)
        self.assertEqual(run(parts, "a", (3,)), ((("take", 3, "a", 0), ("say", 3, "a", 1)), None))


class PartsWalks(unittest.TestCase):
    def test_rows_of(self):
        parts = parts_of("part a, take x, give x as g, part b, part c, say 1")
        walk = PartsWalk(parts)
        self.assertIsInstance(walk, Walk)
        self.assertEqual(walk.rows_of("a"), (("a", 0, ("take", "x")), ("a", 1, ("give", "x", "g"))))
        self.assertEqual(walk.rows_of("b"), ())
        self.assertEqual(walk.rows_of("c"), (("c", 0, ("say", ((1, 1),), None)),))
        self.assertEqual(kinds(walk.rows_of("a")), ((str, int, (str, str)), (str, int, (str, str, str))))

    def test_key_of_is_the_maker(self):
        for parts in sound_parts(100):
            walk = PartsWalk(parts)
            for part, rows in parts:
                for name in owned(rows):
                    self.assertEqual(walk.key_of(part, name), slow_maker(parts, part, name))
                    self.assertEqual(kinds(walk.key_of(part, name)), (str, int))

    def test_it_loads_none(self):
        walk = PartsWalk(parts_of("part a, ask b, part b"))
        self.assertEqual([walk.loads_of("a"), walk.loads_of("b"), walk.ahead_of("a")], [(), (), ()])
        self.assertEqual(walk.go("a", ()), ((), None))

    def test_one_walk_several_times(self):
        parts = parts_of("part a, take x, bring b g as y, say x + y, need y, part b, take z, give z as g")
        walk = PartsWalk(parts)
        for numbers in ((1, 2), (), (5,), (1, 2), (3, -3), (1, 2)):
            for root in ("a", "b", "a"):
                self.assertEqual(walk.go(root, numbers), run(parts, root, numbers))

    def test_two_walks_side_by_side(self):
        one = PartsWalk(parts_of("part a, take x, say x"))
        other = PartsWalk(parts_of("part a, take x, say x + x"))
        for numbers in ((1,), (2,)):
            value = numbers[0]
            self.assertEqual(one.go("a", numbers)[0][1], ("say", value, "a", 1))
            self.assertEqual(other.go("a", numbers)[0][1], ("say", 2 * value, "a", 1))


class OwnWalk(Walk):
    """All four methods in the place of those of Walk; its object is made without a word to Walk."""

    def __init__(self, rows, keys, loads, ahead):
        self.rows_told = rows
        self.keys_told = keys
        self.loads_told = loads
        self.ahead_told = ahead

    def rows_of(self, part):
        return self.rows_told[part]

    def key_of(self, part, name):
        return self.keys_told.get((part, name), (part, name))

    def loads_of(self, part):
        return self.loads_told.get(part, ())

    def ahead_of(self, root):
        return self.ahead_told.get(root, ())


class OnlyRows(Walk):
    def rows_of(self, part):
        return ((9, 4, ("take", "x")), (8, 3, ("do", "b"))) if part == "a" else ((7, 2, ("say", ((1, "x"),), None)),)


def own_rows(text):
    """Rows by part, each with a place and a number of its own."""
    rows = {}
    for place, (part, inner) in enumerate(parts_of(text)):
        rows[part] = tuple((10 + place, 5 * number + 1, row) for number, row in enumerate(inner))
    return rows


def as_do(row):
    return ("do", row[1]) if row[0] == "bring" else row


def loads(*packs):
    return tuple(("load", pack) for pack in packs)


class Walks(unittest.TestCase):
    def test_walk_itself(self):
        walk = Walk()
        self.assertEqual(walk.rows_of("a"), ())
        self.assertEqual(walk.key_of("a", "x"), "x")
        self.assertEqual(walk.loads_of("a"), ())
        self.assertEqual(walk.ahead_of("a"), ())
        self.assertEqual(walk.go("a", (1, 2)), ((), None))

    def test_only_rows_told(self):
        walk = OnlyRows()
        self.assertEqual(walk.go("a", (6,)), ((("take", 6, 9, 4), ("say", 6, 7, 2)), None))
        self.assertEqual(walk.go("b", (6,)), ((), ("early", 7, 2, 1)))
        self.assertEqual(walk.go("a", ()), ((("take", 0, 9, 4), ("say", 0, 7, 2)), None))

    def test_places_and_numbers_are_the_walk_s(self):
        walk = OwnWalk(own_rows("part a, take x, say x, ask b, need x - 3, part b, say 2"), {}, {}, {})
        deeds = (("take", 3, 10, 1), ("say", 3, 10, 6), ("say", 2, 11, 1))
        self.assertEqual(walk.go("a", (3,)), (deeds, ("need", 10, 16, 0)))

    def test_a_place_may_be_anything(self):
        walk = OwnWalk({"a": ((None, "n", ("say", ((1, 2),), None)), (("p",), 5, ("need", ((1, "x"),))))}, {}, {}, {})
        self.assertEqual(walk.go("a", ()), ((("say", 2, None, "n"),), ("early", ("p",), 5, 1)))

    def test_names_known_by_the_same_are_one(self):
        rows = own_rows("part a, take x, ask b, say x, part b, say y, say z")
        keys = {("a", "x"): 5, ("b", "y"): 5}
        self.assertEqual(OwnWalk(rows, keys, {}, {}).go("a", (4,)),
                         ((("take", 4, 10, 1), ("say", 4, 11, 1)), ("early", 11, 6, 1)))
        self.assertEqual(OwnWalk(rows, {}, {}, {}).go("a", (4,)), ((("take", 4, 10, 1),), ("early", 11, 1, 1)))

    def test_do_rows_begin_as_bring_rows_do(self):
        rows = own_rows("part a, bring b, say 1, bring b, bring c, part b, bring a, say 2, part c, say 3")
        done = {part: tuple((place, number, as_do(row)) for place, number, row in inner)
                for part, inner in rows.items()}
        expected = ((("say", 2, 11, 6), ("say", 1, 10, 6), ("say", 3, 12, 1)), None)
        for told in (rows, done):
            self.assertEqual(OwnWalk(told, {}, {"b": (4,), "c": (5,)}, {}).go("a", ()), expected)

    def test_the_root_s_loads_and_then_those_ahead(self):
        walk = OwnWalk(own_rows("part a, say 1"), {}, {"a": (3, 1), "b": (9,)}, {"a": (7, 0), "b": (8,)})
        self.assertEqual(walk.go("a", ()), (loads(3, 1, 7, 0) + (("say", 1, 10, 1),), None))

    def test_no_pack_twice(self):
        walk = OwnWalk(own_rows("part a, ask b, part b"), {},
                       {"a": (2, 1, 2), "b": (1, 6, 4, 6)}, {"a": (1, 4, 2, 4, 5)})
        self.assertEqual(walk.go("a", ()), (loads(2, 1, 4, 5, 6), None))

    def test_ask_loads_ahead_of_the_part_s_rows(self):
        walk = OwnWalk(own_rows("part a, say 1, ask b, say 2, part b, say 3, ask c, part c, say 4"), {},
                       {"a": (0,), "b": (2, 1), "c": (0, 3)}, {})
        trace = loads(0) + (("say", 1, 10, 1),) + loads(2, 1) + (("say", 3, 11, 1),) + loads(3)
        self.assertEqual(walk.go("a", ()), (trace + (("say", 4, 12, 1), ("say", 2, 10, 11)), None))

    def test_only_an_ask_that_begins_its_part_loads(self):
        some = {"a": (0,), "b": (1,), "c": (2,)}
        for text, trace in (
            ("part a, bring b, ask b, part b", (0,)),
            ("part a, bring b, part b, ask a", (0,)),
            ("part a, ask b, ask b, part b", (0, 1)),
            ("part a, ask b, bring c, ask c, part b, ask c, part c", (0, 1, 2)),
        ):
            with self.subTest(text):
                self.assertEqual(OwnWalk(own_rows(text), {}, some, {}).go("a", ()), (loads(*trace), None))

    def test_an_ask_that_is_not_done_loads_nothing(self):
        walk = OwnWalk(own_rows("part a, take x, ask b when x, part b"), {}, {"a": (0,), "b": (1,)}, {})
        for number in (0, -1):
            self.assertEqual(walk.go("a", (number,)), (loads(0) + (("take", number, 10, 1),), None))
        self.assertEqual(walk.go("a", (1,)), (loads(0) + (("take", 1, 10, 1),) + loads(1), None))

    def test_behind_a_fault_nothing_is_loaded(self):
        walk = OwnWalk(own_rows("part a, ask b when x, ask b, take x, part b"), {}, {"a": (0,), "b": (1,)}, {})
        self.assertEqual(walk.go("a", ()), (loads(0), ("early", 10, 1, 3)))

    def test_each_time_anew(self):
        walk = OwnWalk(own_rows("part a, take x, ask b, say x, part b, take y, say y"), {},
                       {"a": (0,), "b": (1, 0)}, {"a": (2,)})
        first = walk.go("a", (5, 6))
        self.assertEqual(first, (loads(0, 2) + (("take", 5, 10, 1),) + loads(1) + (
            ("take", 6, 11, 1), ("say", 6, 11, 6), ("say", 5, 10, 11)), None))
        self.assertEqual(walk.go("b", (5,)), (loads(1, 0) + (("take", 5, 11, 1), ("say", 5, 11, 6)), None))
        self.assertEqual(walk.go("a", (5, 6)), first)

    def test_kinds(self):
        walk = OwnWalk(own_rows("part a, take x, say x"), {}, {"a": (0, 1)}, {})
        trace, fault = walk.go("a", (5,))
        self.assertEqual(kinds(trace), ((str, int), (str, int), (str, int, int, int), (str, int, int, int)))
        self.assertIsNone(fault)


def told(parts):
    return [run(parts, root, (3, 0, -2)) for root, rows in parts]


class HandedIn(unittest.TestCase):
    def test_nothing_handed_in_is_changed_and_nothing_else_counts(self):
        hold_untouched(self, told)


if __name__ == "__main__":
    unittest.main()
