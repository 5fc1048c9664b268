import random
import unittest

from helper import WAYS, hold_untouched, kinds, loads_of, packs_of, some_beginnings, sound_parts, told_numbers

from bundlehouse.bundles import bundle
from bundlehouse.play import PacksWalk, play
from bundlehouse.rows import words_of
from bundlehouse.run import Walk

LONG = int("9" * 60)

# Root, told numbers, ahead, trace, fault, packs, loads.
PLAYS = (
    ("a", (), False, "load 0", None, "part a", "a 0"),
    # the rows behind the head, up to the next head or the pack's end
    ("a", (), False, "load 0, say 1 0 1, say 2 0 2", None, "part a, say 1, say 2", "a 0"),
    ("a", (), False, "load 0, say 1 0 1", None, "part a, say 1, part b, say 2", "a 0"),
    ("b", (), False, "load 0, say 2 0 3", None, "part a, say 1, part b, say 2, part c, say 3", "b 0"),
    ("b", (), False, "load 1, say 3 1 2", None, "part a, say 1 | part c, part b, say 3, part d, say 4", "b 1"),
    # each kind of row of work
    ("a", (4, LONG), False, "load 0, take 4 0 1, take {0} 0 2, say {1} 0 4".format(LONG, LONG + 4), None,
     "part a, take x, take y, set z = x + y, say z, need z, set w = 0, say 1 when w", "a 0"),
    ("a", (4,), False, "load 0, take 4 0 1, take 0 0 2, say -4 0 3", None,
     "part a, take x, take y, say y - x, say v when y, set v = 1", "a 0"),
    # the root's packs first, in the order of its loads, whatever this is, each once
    ("a", (), False, "load 0, load 2, say 1 0 1", None, "part a, say 1 | part c | part b", "a 0 2"),
    ("a", (), False, "load 2, load 0, load 1, say 1 0 1", None, "part a, say 1 | part c | part b", "a 2 0 1"),
    ("a", (), False, "load 1, load 0, say 1 0 1", None, "part a, say 1 | part c", "a 1 0 1 1 0"),
    # other roots load nothing by themselves
    ("b", (), False, "load 1, say 2 1 1", None, "part a, say 1 | part b, say 2", "a 0, b 1"),
    ("b", (), False, "load 1, say 2 1 1", None, "part a, say 1 | part b, say 2", "b 1, a 0"),
    # do rows: once, in a ring, across packs; a root that is begun by a do row loads nothing by that
    ("a", (), False, "load 0, say 3 0 2, say 1 0 5", None, "part b, do a, say 3, part a, do b, say 1", "a 0"),
    ("a", (), False, "load 0, load 1, say 2 1 1, say 1 0 2, say 3 0 4", None,
     "part a, do b, say 1, do b, say 3 | part b, say 2 | part c", "a 0 1, b 1 2"),
    ("a", (), False, "load 0, say 1 0 1, say 2 0 5, say 4 0 7, say 3 0 3", None,
     "part a, say 1, do b, say 3, part b, say 2, do a, say 4", "a 0"),
    ("b", (), False, "load 0, say 2 0 5, say 1 0 1, say 3 0 3, say 4 0 7", None,
     "part a, say 1, do b, say 3, part b, say 2, do a, say 4", "a 0, b 0"),
    ("a", (), False, "load 0, load 1, load 2, say 3 2 2, say 2 1 2, say 1 0 2", None,
     "part a, do b, say 1 | part b, do c, say 2 | part c, do a, say 3", "a 0 1 2"),
    # ask rows that are done: the part's packs are loaded ahead of its rows, in their order, those that are not yet
    ("a", (), False, "load 0, say 1 0 1, load 1, say 2 1 1, say 3 0 3", None,
     "part a, say 1, ask b, say 3 | part b, say 2", "a 0, b 1"),
    ("a", (), False, "load 0, load 2, load 3, load 1, say 2 1 2", None,
     "part a, ask b | part b, do c, say 2 | part c | part d", "a 0 2, b 3 2 1"),
    ("a", (7,), False, "load 0, take 7 0 1, load 1, say 2 1 1", None,
     "part a, take x, ask b when x | part b, say 2", "a 0, b 1"),
    # one that is not done
    ("a", (0,), False, "load 0, take 0 0 1, say 3 0 3", None,
     "part a, take x, ask b when x, say 3 | part b, say 2", "a 0, b 1"),
    ("a", (-4,), False, "load 0, take -4 0 1", None, "part a, take x, ask b when x | part b, say 2", "a 0, b 1"),
    # one that asks for a part which is begun already: nothing is loaded, even what is not loaded yet
    ("a", (), False, "load 0, load 1, say 2 1 1", None, "part a, do b, ask b | part b, say 2 | part c", "a 0 1, b 1 2"),
    ("a", (), False, "load 0, load 1, say 2 1 1", None, "part a, ask b, ask b | part b, say 2", "a 0, b 1"),
    ("a", (), False, "load 0, say 2 0 5, say 1 0 2", None, "part a, do b, say 1, part b, ask a, say 2", "a 0"),
    # a part that an ask row began is not begun by a do row
    ("a", (), False, "load 0, load 1, say 2 1 1, say 1 0 3", None,
     "part a, ask b, do b, say 1 | part b, say 2", "a 0 1, b 1"),
    # asked for by one that is asked for
    ("a", (), False, "load 0, load 1, load 2, say 3 2 1, say 2 1 2, say 1 0 2", None,
     "part a, ask b, say 1 | part b, ask c, say 2 | part c, say 3", "a 0, b 1, c 2"),
    # ahead: behind the root's own packs, root by root in the order of loads, whatever stands behind when
    ("a", (0,), True, "load 0, load 1, take 0 0 1, say 3 0 3", None,
     "part a, take x, ask b when x, say 3 | part b, say 2", "a 0, b 1"),
    ("a", (5,), True, "load 0, load 1, take 5 0 1, say 2 1 1, say 3 0 3", None,
     "part a, take x, ask b when x, say 3 | part b, say 2", "a 0, b 1"),
    ("a", (), True, "load 0, load 3, load 2, load 1, say 1 0 4", None,
     "part a, set x = 0, ask b when x, ask d when x, say 1 | part b | part c, part d | part e", "d 3 2, a 0, b 1 2 0"),
    ("c", (), True, "load 2, load 0, load 1", None,
     "part a | part b | part c, set x = 0, ask b when x, ask a when x", "a 0, b 1, c 2"),
    # roots to which it comes by do and ask rows, through several parts, and one that a do row begins
    ("a", (), True, "load 0, load 4, load 2, load 1, load 3, say 1 0 4", None,
     "part a, do b, set x = 0, ask c when x, say 1, part b | part c, do d | part d, set y = 0, ask e when y | part e"
     " | part f", "b 0 4 2, a 0, c 1 2, e 3"),
    # other roots are not loaded ahead
    ("a", (), True, "load 0, load 1, say 2 1 1", None,
     "part a, ask b | part b, say 2 | part c, ask a", "c 2, b 1, a 0"),
    ("b", (), True, "load 1, say 2 1 1", None, "part a, ask b | part b, say 2", "a 0, b 1"),
    # in a ring
    ("b", (), True, "load 1, load 0, say 1 0 2, say 2 1 2", None,
     "part a, ask b, say 1 | part b, ask a, say 2", "a 0, b 1"),
    # one name in all packs
    ("a", (6,), False, "load 0, load 1, take 6 1 1, say 6 0 2", None, "part a, do b, say x | part b, take x", "a 0 1"),
    ("a", (6, 4), False, "load 0, load 1, take 6 1 1, take 4 0 2, say 2 0 3", None,
     "part a, do b, take x2, say x - x2 | part b, take x", "a 0 1"),
    # one that nobody reads, made by several rows, in one part and in several
    ("a", (6, 4, 2), False, "load 0, take 6 0 6, take 4 0 2, take 2 0 3, say 1 0 4", None,
     "part a, do b, take x, take x, say 1, part b, take x, set x = 3", "a 0"),
    # a name that is called like a part, or like a word
    ("a", (6,), False, "load 0, take 6 0 1, say 6 0 2, say 3 0 5", None,
     "part a, take b, say b when b, do b, part b, say 3", "a 0"),
    ("a", (6,), False, "load 0, take 6 0 1, say 6 0 2", None, "part a, take when, say when when when", "a 0"),
    # both faults: pack, row and word of the pack's row as it is written
    ("a", (), False, "load 0, say 1 0 1", ("need", 0, 2, 0), "part a, say 1, need 0, say 2", "a 0"),
    ("a", (3,), False, "load 0, load 1, take 3 1 2", ("need", 1, 3, 0),
     "part a, do b, say 1 | part c, part b, take x, need x - 3, say 2", "a 0 1"),
    ("a", (), False, "load 0", ("early", 0, 1, 5), "part a, say 1 + 2 - x, set x = 1", "a 0"),
    ("a", (), False, "load 0", ("early", 0, 1, 3), "part a, set x = x", "a 0"),
    ("a", (), False, "load 0, load 1", ("early", 1, 2, 3),
     "part a, do b, take x | part b, set y = 1, say y when x", "a 0 1"),
    ("a", (), False, "load 0", ("early", 0, 1, 3), "part a, ask b when x, take x | part b", "a 0, b 1"),
    ("a", (), False, "load 0, load 1", ("early", 1, 1, 1),
     "part a, ask b, take x | part b, need x + y, take y", "a 0, b 1"),
    # behind a fault nothing is done and nothing loaded
    ("a", (), False, "load 0", ("need", 0, 1, 0), "part a, need 0, ask b, say 1 | part b, say 2", "a 0, b 1"),
    ("a", (), True, "load 0, load 1", ("need", 0, 1, 0), "part a, need 0, ask b | part b, say 2", "a 0, b 1"),
)


def by_hand(packs, loads):
    """A bundle made by hand; where its rows came from is not looked at."""
    laid = packs_of(packs)
    return (laid, tuple(tuple((row[1], None) for row in pack) for pack in laid), loads_of(loads))


def trace_of(text):
    """A trace of a text like "load 0, take 5 0 1": a pack, and a number taken in row 1 of pack 0."""
    words = [piece.split() for piece in text.split(",") if piece]
    return tuple((piece[0],) + tuple(int(word) for word in piece[1:]) for piece in words)


class Halt(Exception):
    pass


class SlowPlay:
    """A bundle played by the document's words, with a call for each part that is begun."""

    def __init__(self, told, numbers):
        self.packs, origins, self.loads = told
        self.left = list(numbers)
        self.begun = []
        self.values = {}
        self.trace = []

    def told(self, root, ahead):
        self.load(root)
        if ahead:
            come = self.comes_to(root)
            for other, packs in self.loads:
                if other in come:
                    self.load(other)
        try:
            self.begin(root)
        except Halt as halt:
            return (tuple(self.trace), halt.args)
        return (tuple(self.trace), None)

    def load(self, root):
        for pack in dict(self.loads)[root]:
            if ("load", pack) not in self.trace:
                self.trace.append(("load", pack))

    def block(self, part):
        for pack, rows in enumerate(self.packs):
            inside = None
            for number, row in enumerate(rows):
                if row[0] == "part":
                    inside = row[1]
                elif inside == part:
                    yield (pack, number, row)

    def comes_to(self, root):
        found = [root]
        for part in found:
            found.extend({row[1] for pack, number, row in self.block(part) if row[0] in ("do", "ask")} - set(found))
        return found

    def begin(self, part):
        self.begun.append(part)
        for pack, number, row in self.block(part):
            if ("load", pack) not in self.trace:
                raise AssertionError("a row is done whose pack is not loaded")
            self.do(pack, number, row)

    def read(self, place, row, word):
        name = words_of(row)[word]
        if name not in self.values:
            raise Halt("early", *place, word)
        return self.values[name]

    def sum(self, place, row, first, terms):
        total = 0
        for k, (sign, thing) in enumerate(terms):
            total += sign * (thing if type(thing) is int else self.read(place, row, first + 2 * k))
        return total

    def do(self, pack, number, row):
        place = (pack, number)
        kind = row[0]
        if kind in ("say", "ask") and row[2] is not None and self.read(place, row, len(words_of(row)) - 1) <= 0:
            return
        if kind in ("do", "ask") and row[1] not in self.begun:
            if kind == "ask":
                self.load(row[1])
            self.begin(row[1])
        if kind == "set":
            self.values[row[1]] = self.sum(place, row, 3, row[2])
        if kind == "take":
            self.values[row[1]] = self.left.pop(0) if self.left else 0
            self.trace.append(("take", self.values[row[1]]) + place)
        if kind == "say":
            self.trace.append(("say", self.sum(place, row, 1, row[1])) + place)
        if kind == "need" and self.sum(place, row, 1, row[1]) <= 0:
            raise Halt("need", *place, 0)


def laid_anew(told, seed):
    """The same blocks in other packs and another order, with loads for the same roots, as one may lay them by hand."""
    chance = random.Random(seed)
    blocks = []
    for row in [row for pack in told[0] for row in pack]:
        if row[0] == "part":
            blocks.append([])
        blocks[-1].append(row)
        # a name that nobody reads, which many rows make
        if chance.random() < 0.2:
            blocks[-1].append(chance.choice((("take", "unread"), ("set", "unread", ((1, 3),)))))
    chance.shuffle(blocks)
    packs = [[] for k in range(chance.randrange(1, len(blocks) + 1))]
    for k, block in enumerate(blocks):
        packs[k if k < len(packs) else chance.randrange(len(packs))].append(block)
    place = {block[0][1]: k for k, pack in enumerate(packs) for block in pack}
    rows = {block[0][1]: block for block in blocks}
    loads = []
    for root, numbers in told[2]:
        come = [root]
        for part in come:
            come.extend({row[1] for row in rows[part] if row[0] == "do"} - set(come))
        more = [chance.randrange(len(packs))] if chance.random() < 0.2 else []
        found = sorted({place[part] for part in come} | set(more))
        loads.append((root, tuple(chance.sample(found, len(found)))))
    chance.shuffle(loads)
    return (tuple(tuple(row for block in pack for row in block) for pack in packs), (), tuple(loads))


class Plays(unittest.TestCase):
    def hold_kinds(self, told):
        trace, fault = told
        self.assertEqual([type(told), type(trace)], [tuple, tuple])
        for deed in trace:
            self.assertEqual(kinds(deed), (str, int) if deed[0] == "load" else (str, int, int, int))
        if fault is not None:
            self.assertEqual(kinds(fault), (str, int, int, int))

    def test_each_case(self):
        for root, numbers, ahead, trace, fault, packs, loads in PLAYS:
            with self.subTest(packs=packs, loads=loads, root=root, numbers=numbers, ahead=ahead):
                laid = by_hand(packs, loads)
                told = play(laid, root, numbers, ahead)
                self.assertEqual(told, (trace_of(trace), fault))
                self.hold_kinds(told)
                self.assertEqual(SlowPlay(laid, numbers).told(root, ahead), told)

    def test_it_is_not_played_ahead_if_this_is_not_told(self):
        laid = by_hand("part a, set x = 0, ask b when x | part b", "a 0, b 1")
        self.assertEqual(play(laid, "a", ()), ((("load", 0),), None))
        self.assertEqual(play(laid, "a", (), False), ((("load", 0),), None))
        self.assertEqual(play(laid, "a", (), ahead=True), ((("load", 0), ("load", 1)), None))
        self.assertEqual(PacksWalk(laid).go("a", ()), ((("load", 0),), None))
        self.assertEqual(PacksWalk(laid, ahead=True).go("a", ()), ((("load", 0), ("load", 1)), None))

    def test_bundles_of_parts(self):
        faults = []
        for seed, parts in enumerate(sound_parts(80)):
            for beginnings in some_beginnings(parts):
                for way in WAYS:
                    laid = bundle(parts, beginnings, 4, way)
                    numbers = told_numbers(seed)[-1]
                    faults.extend(self.hold_against_slow(laid, numbers))
        for kind in (None, "early", "need"):
            self.assertGreater(faults.count(kind), 50, kind)

    def test_bundles_laid_by_hand(self):
        faults = []
        for seed, parts in enumerate(sound_parts(150)):
            for beginnings in some_beginnings(parts)[-3:]:
                laid = laid_anew(bundle(parts, beginnings), seed)
                for numbers in told_numbers(seed):
                    faults.extend(self.hold_against_slow(laid, numbers))
        for kind in (None, "early", "need"):
            self.assertGreater(faults.count(kind), 50, kind)

    def hold_against_slow(self, laid, numbers):
        faults = []
        for root, packs in laid[2]:
            for ahead in (False, True):
                told = play(laid, root, numbers, ahead)
                self.assertEqual(told, SlowPlay(laid, numbers).told(root, ahead))
                self.hold_kinds(told)
                faults.append(told[1] and told[1][0])
        return faults

    def test_many_blocks_in_a_line(self):
        rows = ["part p{0}, do p{1}, say {0}".format(k, k + 1) for k in range(400)]
        laid = by_hand(" | ".join(rows) + " | part p400, say 400", "p0 " + " ".join(str(k) for k in range(401)))
        trace, fault = play(laid, "p0", ())
        self.assertIsNone(fault)
        self.assertEqual([deed[1] for deed in trace[401:]], list(range(400, -1, -1)))
        self.assertEqual(play(laid, "p0", (), True), (trace, None))

    def test_names_of_more_than_eight_signs(self):
        laid = ((((("part", "a"), ("take", "abcdefgh12"), ("say", ((1, "abcdefgh12"),), "abcdefgh12"))),), (),
                (("a", (0,)),))
        self.assertEqual(play(laid, "a", (3,)), (trace_of("load 0, take 3 0 1, say 3 0 2"), None))


class PacksWalks(unittest.TestCase):
    def setUp(self):
        self.laid = by_hand(
            "part a, take x, ask b, part c, part d, do c, say x | part b, do d, set y = 1, ask e when y |"
            "part e, ask a",
            "a 0, b 1 0, e 2, d 0 1")

    def test_it_is_a_walk(self):
        self.assertIsInstance(PacksWalk(self.laid), Walk)

    def test_rows_of(self):
        walk = PacksWalk(self.laid)
        self.assertEqual(walk.rows_of("a"), ((0, 1, ("take", "x")), (0, 2, ("ask", "b", None))))
        self.assertEqual(walk.rows_of("c"), ())
        self.assertEqual(walk.rows_of("d"), ((0, 5, ("do", "c")), (0, 6, ("say", ((1, "x"),), None))))
        self.assertEqual([row[:2] for row in walk.rows_of("b")], [(1, 1), (1, 2), (1, 3)])
        self.assertEqual(walk.rows_of("e"), ((2, 1, ("ask", "a", None)),))
        self.assertEqual(kinds(walk.rows_of("a")), ((int, int, (str, str)), (int, int, (str, str, type(None)))))

    def test_key_of_is_the_name_of_any_name(self):
        walk = PacksWalk(self.laid)
        for part in ("a", "b", "c", "nowhere"):
            for name in ("x", "y", "z", "abcdefgh12", "a"):
                self.assertEqual(walk.key_of(part, name), name)

    def test_loads_of(self):
        walk = PacksWalk(self.laid)
        self.assertEqual([walk.loads_of(part) for part in "abcde"], [(0,), (1, 0), (), (0, 1), (2,)])
        self.assertEqual(walk.loads_of("nowhere"), ())
        self.assertEqual(kinds(walk.loads_of("b")), (int, int))

    def test_ahead_of(self):
        for walk in (PacksWalk(self.laid), PacksWalk(self.laid, False)):
            self.assertEqual([walk.ahead_of(part) for part in "abed"], [()] * 4)
        walk = PacksWalk(self.laid, True)
        # a, b and e come to all four roots, d to itself alone; a pack stands there more than once
        self.assertEqual([walk.ahead_of(part) for part in "abe"], [(0, 1, 0, 2, 0, 1)] * 3)
        self.assertEqual(walk.ahead_of("d"), (0, 1))
        self.assertEqual(kinds(walk.ahead_of("a")), (int,) * 6)

    def test_one_walk_several_times(self):
        for ahead in (False, True):
            walk = PacksWalk(self.laid, ahead)
            for root, number in (("a", 5), ("a", 0), ("d", 3), ("a", 5), ("e", 7), ("b", 1), ("a", 5)):
                self.assertEqual(walk.go(root, (number,)), play(self.laid, root, (number,), ahead))

    def test_two_walks_by_turns(self):
        other = by_hand("part b, say 9, ask a | part a, take x, say x", "b 0, a 1")
        walks = [(PacksWalk(laid, ahead), laid, ahead) for laid in (self.laid, other) for ahead in (False, True)]
        for root in ("a", "b", "a", "b"):
            for walk, laid, ahead in walks:
                self.assertEqual(walk.go(root, (3,)), play(laid, root, (3,), ahead))
                self.assertEqual(walk.go(root, (3,)), SlowPlay(laid, (3,)).told(root, ahead))

    def test_what_it_gives_is_its_own(self):
        walk = PacksWalk(self.laid, True)
        first = [walk.rows_of("a"), walk.loads_of("b"), walk.ahead_of("a")]
        walk.go("a", (5,))
        self.assertEqual([walk.rows_of("a"), walk.loads_of("b"), walk.ahead_of("a")], first)
        self.assertEqual({type(value) for value in first}, {tuple})


def told(parts):
    names = tuple(part for part, rows in parts)
    laid = bundle(parts, names[-2:])
    before = repr(laid)
    found = [play(laid, root, (3, 0, -2), ahead) for root, packs in laid[2] for ahead in (False, True)]
    return (found, repr(laid) == before)


class HandedIn(unittest.TestCase):
    def test_nothing_handed_in_is_changed_and_nothing_else_counts(self):
        hold_untouched(self, told)
        self.assertTrue(all(told(parts)[1] for parts in sound_parts(60)))


if __name__ == "__main__":
    unittest.main()
