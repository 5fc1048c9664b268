import itertools
import unittest

from helper import WORK, figured, hold_untouched, kinds, largest, owned, parts_of, slow_maker, sound_parts

from bundlehouse.names import new_names, renamed
from bundlehouse.net import check
from bundlehouse.rows import read_names, words_of
from bundlehouse.thinned import thinned

# The new names as "PART OWN new", parts.
NEW_NAMES = (
    ("", ""),
    ("", "part a"),
    ("", "part a, say 1, need 2, ask b, part b, bring a"),
    ("a x x", "part a, take x"),
    ("a x x", "part a, set x = 1"),
    ("a x x, a y y", "part a, take x, set y = x"),
    ("a y y, a x x", "part a, set y = 1, say y, take x"),
    # the first maker keeps the name, a second and a third one get a number
    ("a x x, b x x2", "part a, take x, part b, take x"),
    ("b x x, a x x2", "part b, take x, part a, set x = 1"),
    ("a x x, b x x2, c x x3", "part a, take x, part b, set x = 1, part c, take x"),
    ("a x x, a y y, b y y2, b x x2, c x x3, c z z, c y y3",
     "part a, take x, take y, part b, take y, take x, part c, take x, take z, take y"),
    # a number that a row's own name has already, above, below, in the same part
    ("a x x, a x2 x2, b x x3", "part a, take x, take x2, part b, take x"),
    ("a x2 x2, a x x, b x x3", "part a, take x2, take x, part b, take x"),
    ("a x x, b x x3, c x2 x2", "part a, take x, part b, take x, part c, take x2"),
    ("a x x, b x x3, b x2 x2", "part a, take x, part b, take x, set x2 = 1"),
    ("a x x, b x x4, c x2 x2, c x3 x3", "part a, take x, part b, take x, part c, take x2, take x3"),
    ("a x x, b x x2, c x x4, d x3 x3", "part a, take x, part b, take x, part c, take x, part d, take x3"),
    ("a x x, b x x3, c x x4, c x2 x2", "part a, take x, part b, take x, part c, take x, take x2"),
    # a number that an earlier new name has: x with 22 behind it, and x2 with 2 behind it
    ("a x2 x2, b x2 x22", "part a, take x2, part b, take x2"),
    ("a x x, a x2 x2, b x x3, b x2 x22", "part a, take x, take x2, part b, take x, take x2"),
    ("a x x, a x2 x2, b x x3, b x2 x23, c x22 x22",
     "part a, take x, take x2, part b, take x, take x2, part c, take x22"),
    ("a x1 x1, b x1 x12", "part a, take x1, part b, take x1"),
    ("a x1 x1, a x x, b x1 x13, b x12 x12", "part a, take x1, take x, part b, take x1, take x12"),
    # no nought, no one behind a name
    ("a x0 x0, b x0 x02, c x0 x03", "part a, take x0, part b, take x0, part c, take x0"),
    ("a x x, a x1 x1, b x x2", "part a, take x, take x1, part b, take x"),
    # more than eight signs
    ("a abcdefgh abcdefgh, b abcdefgh abcdefgh2", "part a, take abcdefgh, part b, take abcdefgh"),
    ("a x x, b x2345678 x2345678, c x2345678 x23456782",
     "part a, take x, part b, take x2345678, part c, take x2345678"),
    # a name that is only brought in, given or a part's is no name that a row makes
    ("a y y, b x x", "part a, bring b g as x, set y = x, part b, take x, give x as g"),
    ("a x x, b x x2, c z z", "part a, take x, part b, take x, bring c x2 as x2, part c, take z, give z as x2"),
    ("x2 x x, b x x2", "part x2, take x, part b, take x"),
)

# Part, row, the row with new names, parts.
RENAMED = (
    # each kind of row
    ("b", 0, ("set", "x2", ((1, 3),)), "part a, take x, part b, set x = 3"),
    ("b", 1, ("set", "y", ((1, "x2"),)), "part a, take x, part b, take x, set y = x"),
    ("b", 0, ("take", "x2"), "part a, take x, part b, take x"),
    ("b", 1, ("say", ((1, "x2"),), None), "part a, take x, part b, take x, say x"),
    ("b", 1, ("say", ((1, 1),), "x2"), "part a, take x, part b, take x, say 1 when x"),
    ("b", 2, ("say", ((1, "y"), (-1, "x2")), "x2"), "part a, take x, part b, take x, take y, say y - x when x"),
    ("b", 1, ("need", ((1, "x2"),)), "part a, take x, part b, take x, need x"),
    ("b", 0, ("ask", "a", None), "part a, take x, part b, ask a"),
    ("b", 1, ("ask", "a", "x2"), "part a, take x, part b, take x, ask a when x"),
    # the first maker's stay as they are
    ("a", 1, ("say", ((1, "x"),), "x"), "part a, take x, say x when x, part b, take x, say x"),
    # a set row that reads the name it makes, and names from below
    ("b", 0, ("set", "x2", ((1, "x2"), (1, "y"))), "part a, take x, part b, set x = x + y, take y"),
    # numbers and signs as they were
    ("b", 1, ("say", ((1, 3), (-1, "x2"), (1, "x2"), (-1, 0), (1, 12), (-1, "x2")), None),
     "part a, take x, part b, take x, say 3 - x + x - 0 + 12 - x"),
    ("a", 0, ("need", ((1, 10 ** 59),)), "part a, need 1" + "0" * 59),
    # a name brought in, through one part and through several, in a row above and below
    ("a", 1, ("say", ((1, "y"),), None), "part a, bring b g as x, say x, part b, take y, give y as g"),
    ("a", 1, ("set", "y", ((1, "y2"),)), "part a, bring b g as x, set y = x, part b, take y, give y as g"),
    ("a", 0, ("need", ((1, "y2"), (1, "y"))),
     "part a, need x + y, take y, bring b g as x, part b, take y, give y as g"),
    ("a", 1, ("say", ((1, "z"),), "z"), "part a, bring b g as x, say x when x,"
     "part b, bring c g as y, give y as g, part c, take z, give z as g"),
    ("a", 1, ("ask", "c", "x3"), "part a, bring b g as z, ask c when z, part d, take x,"
     "part b, bring e h as w, give w as g, part c, take x, part e, take x, give x as h"),
    # brought in under the name of another maker
    ("a", 1, ("say", ((1, "x"), (-1, "x2")), None), "part b, take x, give x as g, part c, take x, give x as g,"
     "part a, bring b g as y g as w, say y - x, bring c g as x"),
    # a name that is called like the asked part, which stays
    ("b", 1, ("ask", "a", "a2"), "part a, take a, part b, take a, ask a when a"),
    ("b", 1, ("ask", "x", "x2"), "part x, take x, part b, take x, ask x when x"),
    # names that are called like words
    ("b", 1, ("say", ((1, "when2"),), "when2"), "part a, take when, part b, take when, say when when when"),
    # more than eight signs
    ("b", 1, ("say", ((1, "abcdefgh2"),), "abcdefgh2"),
     "part a, take abcdefgh, part b, take abcdefgh, say abcdefgh when abcdefgh"),
)


def triples(text):
    return tuple(tuple(piece.split()) for piece in text.split(",") if piece)


def slow_new_names(parts):
    made = [(part, row[1]) for part, rows in parts for row in rows if row[0] in ("set", "take")]
    told = []
    for part, own in made:
        earlier = [new for other, name, new in told]
        if own in earlier:
            forms = (own + str(number) for number in itertools.count(2))
            taken = earlier + [name for other, name in made]
            told.append((part, own, [form for form in itertools.islice(forms, 99) if form not in taken][0]))
        else:
            told.append((part, own, own))
    return tuple(told)


def slow_words(parts, part, row):
    """The words of a row, each name in it changed."""
    news = {}
    for other, own, new in slow_new_names(parts):
        news[slow_maker(parts, other, own)] = new
    words = list(words_of(row))
    for place in [place for place, name in read_names(row)] + ([1] if row[0] in ("set", "take") else []):
        words[place] = news[slow_maker(parts, part, words[place])]
    return tuple(words)


def all_parts(count):
    found = sound_parts(count)
    return found + [figured(parts, seed) for seed, parts in enumerate(found)]


class NewNames(unittest.TestCase):
    def test_each_case(self):
        for expected, text in NEW_NAMES:
            with self.subTest(text):
                parts = parts_of(text)
                self.assertIsNone(check(parts))
                told = new_names(parts)
                self.assertEqual(told, triples(expected))
                self.assertEqual(slow_new_names(parts), told)
                self.assertEqual(kinds(told), ((str, str, str),) * len(told))

    def test_by_chance(self):
        changed = []
        for parts in all_parts(300):
            self.assertIsNone(check(parts))
            told = new_names(parts)
            self.assertEqual(told, slow_new_names(parts))
            self.assertEqual(kinds(told), ((str, str, str),) * len(told))
            changed.extend(own != new for part, own, new in told)
        self.assertGreater(changed.count(True), 100)
        self.assertGreater(changed.count(False), 100)

    def test_a_number_of_two_figures(self):
        parts = parts_of(", ".join("part p{0}, take x, take x1".format(k) for k in range(24)))
        told = new_names(parts)
        self.assertEqual(told, slow_new_names(parts))
        # By then x1 has got x12 to x19.
        self.assertEqual([new for part, own, new in told if own == "x"][8:12], ["x9", "x10", "x11", "x20"])
        self.assertEqual([new for part, own, new in told if own == "x1"][7:10], ["x18", "x19", "x110"])

    def test_no_new_name_stands_twice(self):
        for parts in all_parts(100):
            news = [new for part, own, new in new_names(parts)]
            self.assertEqual(len(set(news)), len(news))

    def test_many_rows(self):
        parts = parts_of("part a, " + ", ".join("take x" + str(k) for k in range(960)))
        names = ["x" + str(k) for k in range(960)]
        self.assertEqual(new_names(parts), tuple(("a", name, name) for name in names))

    def test_of_thinned_parts(self):
        for parts in sound_parts(60):
            thin = thinned(parts, (parts[0][0],))[0]
            self.assertEqual(new_names(thin), slow_new_names(thin))


class Renamed(unittest.TestCase):
    def hold(self, parts, part, number):
        row = dict(parts)[part][number]
        told = renamed(parts, part, number)
        self.assertEqual(words_of(told), slow_words(parts, part, row))
        self.assertEqual(kinds(told), kinds(row))

    def test_each_case(self):
        for part, number, expected, text in RENAMED:
            with self.subTest(text=text, part=part, row=number):
                parts = parts_of(text)
                self.assertIsNone(check(parts))
                self.assertEqual(renamed(parts, part, number), expected)
                self.hold(parts, part, number)

    def test_by_chance(self):
        seen = dict.fromkeys(WORK, 0)
        for parts in all_parts(150):
            for part, rows in parts:
                for number, row in enumerate(rows):
                    if row[0] in WORK:
                        self.hold(parts, part, number)
                        seen[row[0]] += renamed(parts, part, number) != row
        for kind in WORK:
            self.assertGreater(seen[kind], 20, kind)

    def test_each_name_gets_its_makers(self):
        for parts in all_parts(60):
            news = {slow_maker(parts, part, own): new for part, own, new in new_names(parts)}
            for part, rows in parts:
                for name in owned(rows):
                    more = tuple((other, inner + (("need", ((1, name),)),) * (other == part)) for other, inner in parts)
                    new = news[slow_maker(parts, part, name)]
                    self.assertEqual(renamed(more, part, len(rows)), ("need", ((1, new),)))

    def test_most_parts_and_rows(self):
        parts = largest()
        for part, number in (("p0", 39), ("p11", 7), ("p23", 8), ("p23", 39)):
            self.hold(parts, part, number)


def told(parts):
    rows = [(part, number) for part, inner in parts for number, row in enumerate(inner) if row[0] in WORK]
    return (new_names(parts), [renamed(parts, part, number) for part, number in rows])


class HandedIn(unittest.TestCase):
    def test_nothing_handed_in_is_changed_and_nothing_else_counts(self):
        hold_untouched(self, told)


if __name__ == "__main__":
    unittest.main()
