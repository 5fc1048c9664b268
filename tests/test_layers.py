import random
import unittest

from helper import hold_untouched, kinds, net_by_chance, parts_of, slow_bringings, sound_parts

from bundlehouse.errors import BundleError, NoRow
from bundlehouse.layers import broken, read_layers
from bundlehouse.net import check

# Text (rows parted by commas), folders, rules.
READ = (
    ("", "", ""),
    ("folder up a", "a:up", ""),
    ("folder up a b c", "a:up b:up c:up", ""),
    ("folder up c a b", "c:up a:up b:up", ""),
    ("never up down", "", "up:down"),
    ("never up up", "", "up:up"),
    ("folder up a, folder down b", "a:up b:down", ""),
    # one folder in several rows, others between
    ("folder up b, folder down c a, folder up d", "b:up c:down a:down d:up", ""),
    # rules in their order, one twice, ahead of the folders and between, and of folders that are nowhere else
    ("never up down, never down up, never up down", "", "up:down down:up up:down"),
    ("never up down, folder down a, never down up, folder up b, never x y", "a:down b:up", "up:down down:up x:y"),
    # names that are words, or alike
    ("folder never a", "a:never", ""),
    ("folder folder folder", "folder:folder", ""),
    ("folder never never folder", "never:never folder:never", ""),
    ("never never never", "", "never:never"),
    ("never folder never, folder up never", "never:up", "folder:never"),
    ("folder a a", "a:a", ""),
    ("folder a b, folder b a", "b:a a:b", ""),
    # names with figures, of eight signs
    ("folder u1 a2 abcdefgh z9999999, never abcdefgh u1", "a2:u1 abcdefgh:u1 z9999999:u1", "abcdefgh:u1"),
)

# The number of the first wrong row, text.
WRONG = (
    # too few words, too many
    (0, "folder"), (0, "folder up"), (0, "never"), (0, "never up"), (0, "never up down a"), (0, "never up down up low"),
    # two blanks, a blank ahead or behind, or alone, a tab
    (0, "folder  up a"), (0, "folder up  a"), (0, "never up  down"), (0, " folder up a"), (0, "folder up a "),
    (0, "folder up "), (0, "never up down "), (0, " never up down"), (0, " "), (0, "folder up\ta"),
    (0, "never\tup down"),
    # no name: a figure first, a great letter, another sign, nine signs
    (0, "folder 1up a"), (0, "folder up 1a"), (0, "folder up 7"), (0, "folder Up a"), (0, "folder up A"),
    (0, "folder up a b-c"), (0, "folder up a,"), (0, "never up _down"), (0, "never 0 down"), (0, "folder abcdefghi a"),
    (0, "folder up abcdefghi"), (0, "never up abcdefghi"), (0, "never abcdefghi up"), (0, "never up DOWN"),
    # no such row
    (0, "up a"), (0, "Folder up a"), (0, "folders up a"), (0, "Never up down"), (0, "part a"), (0, "a"), (0, "#"),
    # an empty row, a line end behind the last row
    (0, "\n"), (0, "\nfolder up a"), (1, "folder up a\n"), (1, "folder up a\n\nnever up down"),
    (2, "never a b\nnever a b\n"),
    # the first one counts
    (1, "never up down\nfolder up\nnever\nfolder down a"), (2, "folder up a\nnever up up\nnever up\n"),
    (3, "folder up a\nfolder down b\nnever up down\nnever up down \n"),
    # a part that is laid twice: in one row, in two, in one folder and in two
    (0, "folder up a a"), (0, "folder up a b c b"), (1, "folder up a\nfolder up a"), (1, "folder up a\nfolder down a"),
    (2, "folder up a b\nfolder down c\nfolder low d b"), (2, "folder up a\nnever up down\nfolder down b a"),
    (1, "folder up a\nfolder down a\nnever"), (1, "folder up a\nnever\nfolder down a"),
    (1, "folder up a\nfolder down b 1 a"),
)


def pairs_of(text):
    return tuple(tuple(word.split(":")) for word in text.split())


class ReadLayers(unittest.TestCase):
    def test_each_case(self):
        for text, folders, rules in READ:
            with self.subTest(text):
                told = read_layers(text.replace(", ", "\n"))
                self.assertEqual(told, (pairs_of(folders), pairs_of(rules)))
                self.assertEqual(kinds(told), (((str, str),) * len(told[0]), ((str, str),) * len(told[1])))

    def test_wrong_ones_are_refused(self):
        for number, text in WRONG:
            with self.subTest(text):
                with self.assertRaises(NoRow) as caught:
                    read_layers(text)
                self.assertEqual(caught.exception.number, number)
                self.assertIs(type(caught.exception.number), int)
                self.assertIsInstance(caught.exception, BundleError)

    def test_a_wrong_row_behind_others(self):
        for number, text in WRONG:
            with self.assertRaises(NoRow) as caught:
                read_layers("folder f x1 x2 x3\nnever f g\n" + text)
            self.assertEqual(caught.exception.number, number + 2)

    def test_100_rows_of_300_signs(self):
        names = iter("q" + str(k) for k in range(10 ** 6, 10 ** 6 + 10000))
        rows = []
        for k in range(99):
            rows.append("folder f" + str(k % 7) + "".join(" " + next(names) for count in range(32)))
        rows.append("never f1 f2")
        self.assertLessEqual(max(len(row) for row in rows), 300)
        folders, rules = read_layers("\n".join(rows))
        self.assertEqual(len(folders), 99 * 32)
        self.assertEqual([folders[0], folders[32], folders[-1]],
                         [("q1000000", "f0"), ("q1000032", "f1"), ("q1003167", "f0")])
        self.assertEqual(rules, (("f1", "f2"),))


# Layers (rows parted by commas), broken rules as "number way", parts.
BROKEN = (
    # a rule kept: none laid there, no bringing-in, one the other way
    ("never up down", "", "part a, bring b, part b"),
    ("folder up a, never up down", "", "part a, bring b, part b"),
    ("folder down b, never up down", "", "part a, bring b, part b"),
    ("folder up a, folder down b, never up down", "", "part a, part b"),
    ("folder up a, folder down b, never up down", "", "part a, part b, bring a"),
    ("folder up a, folder down b", "", "part a, bring b, part b"),
    # broken by one step, by several
    ("folder up a, folder down b, never up down", "0 ab", "part a, bring b, part b"),
    ("folder up a, folder down c, never up down", "0 abc", "part a, bring b, part b, bring c, part c"),
    ("folder up a, folder down d, never up down", "0 acbd",
     "part a, bring c, part b, bring d, part c, bring b, part d"),
    ("folder up a, folder mid b, folder down c, never up down", "0 abc", "part a, bring b, part b, bring c, part c"),
    # the shortest way, of one part and of several, to one and to several
    ("folder up a, folder down d, never up down", "0 ad",
     "part a, bring b, bring d, part b, bring d, part d"),
    ("folder up a, folder down d, never up down", "0 acd",
     "part a, bring b, bring c, part b, bring c, bring e, part c, bring d, part d, part e, bring d"),
    ("folder up a b, folder down d, never up down", "0 bd",
     "part a, bring c, part c, bring d, part b, bring d, part d"),
    ("folder up a, folder down c d, never up down", "0 ad",
     "part a, bring b, bring d, part b, bring c, part c, part d"),
    ("folder up a b, folder down d, never up down", "0 bd", "part a, bring b, part b, bring d, part d"),
    ("folder up a, folder down c d, never up down", "0 ac", "part a, bring c, part c, bring d, part d"),
    # a folder's rule with itself: by two parts, in a ring, by none
    ("folder up a b, never up up", "0 ab", "part a, bring b, part b"),
    ("folder up a b, never up up", "0 acb", "part a, bring c, part b, part c, bring b"),
    ("folder up a, never up up", "0 aba", "part a, bring b, part b, bring a"),
    ("folder up b, never up up", "0 bcab", "part a, bring b, part b, bring c, part c, bring a"),
    ("folder up a d, never up up", "0 ad", "part a, bring b, bring d, part b, bring a, part d"),
    ("folder up a, never up up", "", "part a, bring b, part b"),
    ("folder up a, never up up", "", "part a"),
    ("folder up a, never up up", "", "part a, bring b, part b, bring c, part c, bring b"),
    # through a ring that does not lead back
    ("folder up a, folder down d, never up down", "0 abcd",
     "part a, bring b, part b, bring c, part c, bring b, bring d, part d"),
    ("folder up a, folder down d, never up down", "", "part a, bring b, part b, bring c, part c, bring b, part d"),
    # ask rows lead nowhere here
    ("folder up a, folder down b, never up down", "", "part a, ask b, part b"),
    ("folder up a, folder down c, never up down", "", "part a, bring b, part b, ask c, part c"),
    ("folder up a, folder down c, never up down", "0 abc", "part a, ask c, bring b, part b, bring c, part c"),
    # several rules, in their order, the same one twice, kept ones between
    ("folder up a, folder down b, never down up, never up down, never up up, never up down", "1 ab, 3 ab",
     "part a, bring b, part b"),
    ("folder up a, folder down b, folder low c, never up low, never down low, never low up, never up down",
     "0 abc, 1 bc, 3 ab", "part a, bring b, part b, bring c, part c"),
)


def ways_of(text):
    words = [piece.split() for piece in text.split(",") if piece]
    return tuple((int(number), tuple(way)) for number, way in words)


def slow_lengths(parts):
    """The fewest bringings-in, one or more, from each part to each other one that it comes to, itself, too."""
    found = {pair: 1 for pair in slow_bringings(parts)}
    for mid, rows in parts:
        for one, other in [pair for pair in found if pair[1] == mid]:
            for mid_again, third in [pair for pair in found if pair[0] == mid]:
                length = found[(one, mid)] + found[(mid, third)]
                found[(one, third)] = min(length, found.get((one, third), length))
    return found


def layers_by_chance(parts, seed):
    chance = random.Random(seed)
    names = ["up", "down", "low", "part", "never"][:chance.randrange(1, 6)]
    folders = tuple((part, chance.choice(names)) for part, rows in parts if chance.random() < 0.8)
    rules = tuple((chance.choice(names), chance.choice(names)) for k in range(chance.randrange(6)))
    return (folders, rules)


class Broken(unittest.TestCase):
    def hold(self, parts, folders, rules):
        told = broken(parts, folders, rules)
        self.assertIs(type(told), tuple)
        lengths = slow_lengths(parts)
        expected = []
        for number, (folder, other) in enumerate(rules):
            found = [length for (one, last), length in lengths.items()
                     if (one, folder) in folders and (last, other) in folders]
            if found:
                expected.append((number, min(found) + 1))
        self.assertEqual([(number, len(way)) for number, way in told], expected)
        for number, way in told:
            self.assertEqual(kinds((number, way)), (int, (str,) * len(way)))
            self.assertIn((way[0], rules[number][0]), folders)
            self.assertIn((way[-1], rules[number][1]), folders)
            for step in zip(way, way[1:]):
                self.assertIn(step, slow_bringings(parts))
        return told

    def test_each_case(self):
        for layers, expected, text in BROKEN:
            with self.subTest(layers=layers, text=text):
                parts = parts_of(text)
                self.assertIsNone(check(parts))
                folders, rules = read_layers(layers.replace(", ", "\n"))
                self.assertEqual(self.hold(parts, folders, rules), ways_of(expected))

    def test_by_chance(self):
        seen = []
        for seed in range(1500):
            parts = net_by_chance(seed, 10)
            folders, rules = layers_by_chance(parts, seed)
            told = self.hold(parts, folders, rules)
            seen.extend(len(way) for number, way in told)
            seen.append(0 if len(told) < len(rules) else -1)
            seen.extend(-2 for number, way in told if way[0] == way[-1])
        for length in (0, -1, -2, 2, 3, 4):
            self.assertGreater(seen.count(length), 40, length)

    def test_parts_with_all_rows(self):
        for seed, parts in enumerate(sound_parts(200)):
            folders, rules = layers_by_chance(parts, seed)
            self.hold(parts, folders, rules)

    def test_no_rules_and_no_parts(self):
        self.assertEqual(broken((), (), ()), ())
        self.assertEqual(broken((), (), (("up", "down"),)), ())
        self.assertEqual(broken(parts_of("part a"), (("a", "up"),), ()), ())

    def test_many_parts_in_a_line(self):
        line = ["part p{0}, bring p{1}".format(k, k + 1) for k in range(300)]
        parts = parts_of(", ".join(line) + ", part p300")
        told = broken(parts, (("p0", "up"), ("p300", "down")), (("up", "down"),))
        self.assertEqual(told, ((0, tuple("p" + str(k) for k in range(301))),))


def told(parts):
    folders, rules = layers_by_chance(parts, len(parts))
    before = repr((folders, rules))
    found = broken(parts, folders, rules)
    return (found, repr((folders, rules)) == before)


class HandedIn(unittest.TestCase):
    def test_nothing_handed_in_is_changed_and_nothing_else_counts(self):
        hold_untouched(self, told)
        self.assertTrue(all(told(parts)[1] for parts in sound_parts(60)))

    def test_each_text_anew(self):
        first = read_layers("folder up a\nnever up down")
        self.assertEqual(read_layers("folder down a b"), ((("a", "down"), ("b", "down")), ()))
        self.assertEqual(read_layers("folder up a\nnever up down"), first)


if __name__ == "__main__":
    unittest.main()
