import itertools
import re
import unittest

from helper import kinds

from bundlehouse.errors import NoRow
from bundlehouse.rows import read_names, read_row, shown_row, words_of

LONG = int("9" * 60)
X = ((1, "x"),)
SIX = ((1, "a"), (-1, 0), (1, "b"), (1, 12), (-1, "a"), (-1, LONG))
SIX_TEXT = "a - 0 + b + 12 - a - " + "9" * 60
SIX_PAIRS = tuple(("g" + str(k), "o" + str(k)) for k in range(6))
SIX_PAIRS_TEXT = "g0 as o0 g1 as o1 g2 as o2 g3 as o3 g4 as o4 g5 as o5"

# Each row, its text, and the names that it reads.
ROWS = (
    (("bring", "a", ()), "bring a", ()),
    (("bring", "a", (("x", "y"),)), "bring a x as y", ()),
    (("bring", "a", SIX_PAIRS), "bring a " + SIX_PAIRS_TEXT, ()),
    (("bring", "as", (("as", "as"),)), "bring as as as as", ()),
    (("bring", "a", (("x", "y"), ("x", "y"))), "bring a x as y x as y", ()),
    (("give", "x", "y"), "give x as y", ()),
    (("give", "as", "as"), "give as as as", ()),
    (("set", "x", ((1, 0),)), "set x = 0", ()),
    (("set", "x", ((1, "y"),)), "set x = y", ((3, "y"),)),
    (("set", "x", ((1, "x"), (1, "x"))), "set x = x + x", ((3, "x"), (5, "x"))),
    (("set", "set", ((1, "set"),)), "set set = set", ((3, "set"),)),
    (("set", "x", SIX), "set x = " + SIX_TEXT, ((3, "a"), (7, "b"), (11, "a"))),
    (("take", "x"), "take x", ()),
    (("take", "take"), "take take", ()),
    (("say", ((1, 7),), None), "say 7", ()),
    (("say", X, None), "say x", ((1, "x"),)),
    (("say", ((1, "when"),), None), "say when", ((1, "when"),)),
    (("say", ((1, 7),), "x"), "say 7 when x", ((3, "x"),)),
    (("say", ((1, "when"),), "when"), "say when when when", ((3, "when"), (1, "when"))),
    (("say", ((1, "a"), (1, "when")), None), "say a + when", ((1, "a"), (3, "when"))),
    (("say", ((1, "a"), (1, "when")), "b"), "say a + when when b", ((5, "b"), (1, "a"), (3, "when"))),
    (("say", ((1, 3), (-1, "x"), (1, "x")), None), "say 3 - x + x", ((3, "x"), (5, "x"))),
    (("say", SIX, "w"), "say " + SIX_TEXT + " when w", ((13, "w"), (1, "a"), (5, "b"), (9, "a"))),
    (("say", X, "x"), "say x when x", ((3, "x"), (1, "x"))),
    (("need", X), "need x", ((1, "x"),)),
    (("need", ((1, LONG),)), "need " + "9" * 60, ()),
    (("need", SIX), "need " + SIX_TEXT, ((1, "a"), (5, "b"), (9, "a"))),
    (("need", ((1, "need"), (-1, "need"))), "need need - need", ((1, "need"), (3, "need"))),
    (("ask", "a", None), "ask a", ()),
    (("ask", "a", "x"), "ask a when x", ((3, "x"),)),
    (("ask", "when", None), "ask when", ()),
    (("ask", "when", "when"), "ask when when when", ((3, "when"),)),
    (("part", "a"), "part a", ()),
    (("part", "part"), "part part", ()),
    (("do", "a"), "do a", ()),
    (("do", "do"), "do do", ()),
    (("take", "abcdefgh"), "take abcdefgh", ()),
    (("take", "a1234567"), "take a1234567", ()),
    (("take", "z0"), "take z0", ()),
)

NO_ROWS = (
    "", " ", "x", "bring", "give", "set", "take", "say", "need", "ask", "part", "do", "=", "as",
    # blanks and other signs between or round the words
    " take x", "take x ", "take  x", "say x  + y", "say x +  y", "bring a ", "bring a x as y ",
    "say x when  y", "take x\n", "\ntake x", "take\tx", "take\nx", "say x+y", "set x=1", "Take x",
    # words too few or too many
    "bring a x", "bring a x as", "bring a x as y z", "bring a x as y z as", "bring a b",
    "give x", "give x as", "give x as y z", "give as y", "give x y",
    "set x", "set x =", "set = 1", "set x 1", "set x = 1 2", "set x = 1 +", "set x = 1 when x",
    "take x y", "say x y", "say x +", "say + x", "say - x", "say x + + y", "say x when", "say when x",
    "say when when", "say when when when when", "say x when y when z", "say x + when y",
    "need x when y", "need x +", "need when x", "need - 1",
    "ask a when", "ask when x", "ask a b", "ask a x y", "ask a if x", "ask a when x y", "ask a b when x",
    "part a b", "do a b", "take x when y", "part a when x", "do a when x",
    # another word where a set word stands
    "bring a x is y", "bring a x = y", "give x to y", "set x as 1", "set x == 1", "say x * y", "say x if y",
    # neither a name nor a number, or a number where only a name may be
    "take 1", "take 1x", "take X", "take xY", "take x_y", "take x-y", "take -", "take +", "take =",
    "bring 1", "bring a 1 as x", "bring a x as 1", "bring A x as y", "give 1 as x", "give x as 1",
    "set 1 = 1", "set x = X", "set x = -1", "set x = +1", "set x = 1x", "set x = 1.0", "set x = 1_0",
    "set x = ~", "say x when 1", "say x when X", "say x when +", "ask 1", "ask a when 1", "part 1", "do 1",
    # names of nine signs
    "take abcdefghi", "bring abcdefghi", "bring a abcdefghi as x", "bring a x as abcdefghi",
    "give abcdefghi as x", "give x as abcdefghi", "set abcdefghi = 1", "set x = abcdefghi",
    "say abcdefghi", "say x when abcdefghi", "need abcdefghi", "ask abcdefghi", "ask a when abcdefghi",
    "part abcdefghi", "do abcdefghi",
    # numbers with a nought ahead, or of sixty-one figures
    "say 00", "say 01", "say x + 007", "say 0x", "need 00", "set x = 01",
    "say 1" + "0" * 60, "set x = 1 - " + "9" * 61, "need " + "0" * 61,
    # seven terms, seven pairs
    "say " + " + ".join("abcdefg"), "need " + " - ".join("1234567"), "set x = " + " + ".join("abcdefg"),
    "say " + " + ".join("abcdefg") + " when x", "bring a " + SIX_PAIRS_TEXT + " g6 as o6",
    "bring a" + " x as y" * 7,
)

NAME = "[a-z][a-z0-9]{0,7}"
THING = f"(?:{NAME}|0|[1-9][0-9]{{0,59}})"
SUM = f"{THING}(?: [+-] {THING}){{0,5}}"
WHEN = f"(?: when {NAME})?"
GRAMMAR = re.compile(
    f"bring {NAME}(?: {NAME} as {NAME}){{0,6}}|give {NAME} as {NAME}|set {NAME} = {SUM}|take {NAME}"
    f"|say {SUM}{WHEN}|need {SUM}|ask {NAME}{WHEN}|part {NAME}|do {NAME}"
)


def refusal(text):
    try:
        return ("row", read_row(text))
    except NoRow as error:
        return ("refused", error.number)


class Written(unittest.TestCase):
    def test_shown(self):
        for row, text, names in ROWS:
            with self.subTest(text):
                self.assertEqual(shown_row(row), text)
                self.assertIs(type(shown_row(row)), str)

    def test_words(self):
        for row, text, names in ROWS:
            with self.subTest(text):
                self.assertEqual(words_of(row), tuple(text.split(" ")))
                self.assertEqual(set(kinds(words_of(row))), {str})

    def test_new_names_of_more_than_eight_signs(self):
        row = ("say", ((1, "abcdefgh12"), (-1, 3)), "abcdefgh13")
        self.assertEqual(shown_row(row), "say abcdefgh12 - 3 when abcdefgh13")
        self.assertEqual(words_of(row), ("say", "abcdefgh12", "-", "3", "when", "abcdefgh13"))
        self.assertEqual(read_names(row), ((5, "abcdefgh13"), (1, "abcdefgh12")))

    def test_beyond_the_bounds_nothing_is_refused(self):
        self.assertEqual(shown_row(("need", ((1, "a"),) * 7)), "need a + a + a + a + a + a + a")
        self.assertEqual(shown_row(("bring", "a", (("x", "y"),) * 7)), "bring a" + " x as y" * 7)
        self.assertEqual(shown_row(("need", ((1, 10 ** 60),))), "need 1" + "0" * 60)


class Read(unittest.TestCase):
    def test_read(self):
        for row, text, names in ROWS:
            with self.subTest(text):
                self.assertEqual(read_row(text), row)
                self.assertEqual(kinds(read_row(text)), kinds(row))

    def test_no_row(self):
        for text in NO_ROWS:
            with self.subTest(text):
                self.assertEqual(refusal(text), ("refused", 0))
                self.assertIs(type(refusal(text)[1]), int)

    def test_each_sign_in_a_name(self):
        for code in range(32, 127):
            sign = chr(code)
            with self.subTest(sign):
                self.assertEqual(refusal("take " + sign)[0] == "row", "a" <= sign <= "z")
                self.assertEqual(refusal("take a" + sign)[0] == "row", "a" <= sign <= "z" or "0" <= sign <= "9")
                self.assertEqual(refusal("need 1" + sign)[0] == "row", "0" <= sign <= "9")

    def test_lengths(self):
        for size in range(1, 12):
            self.assertEqual(refusal("take " + "a" * size)[0] == "row", size <= 8)
        for size in range(1, 65):
            self.assertEqual(refusal("need " + "1" * size)[0] == "row", size <= 60)
        for size in range(1, 10):
            self.assertEqual(refusal("need " + " + ".join("a" * size))[0] == "row", size <= 6)
        for size in range(0, 10):
            self.assertEqual(refusal("bring a" + " x as y" * size)[0] == "row", size <= 6)

    def test_a_long_row(self):
        self.assertEqual(refusal("say " + "a" * 996), ("refused", 0))
        self.assertEqual(refusal("say" + " a +" * 249), ("refused", 0))

    def test_every_short_text_of_some_words(self):
        firsts = ("bring", "give", "set", "take", "say", "need", "ask", "part", "do", "when", "")
        others = ("say", "when", "as", "=", "+", "-", "0", "a", "")
        for size in range(0, 5):
            for first in firsts:
                for rest in itertools.product(others, repeat=size):
                    text = " ".join((first,) + rest)
                    told = refusal(text)
                    if GRAMMAR.fullmatch(text):
                        self.assertEqual(shown_row(told[1]), text)
                        self.assertEqual(words_of(told[1]), (first,) + rest)
                    else:
                        self.assertEqual(told, ("refused", 0), text)


class HandedIn(unittest.TestCase):
    def told(self, rows):
        return [(shown_row(row), words_of(row), read_names(row), refusal(shown_row(row))) for row in rows]

    def test_nothing_handed_in_is_changed(self):
        rows = [row for row, text, names in ROWS]
        before = repr(rows)
        self.told(rows)
        self.assertEqual(repr(rows), before)

    def test_what_is_told_hangs_on_nothing_else(self):
        rows = [row for row, text, names in ROWS]
        first = self.told(rows)
        for text in NO_ROWS:
            refusal(text)
        self.assertEqual(self.told(rows[::-1])[::-1], first)


class ReadNames(unittest.TestCase):
    def test_names(self):
        for row, text, names in ROWS:
            with self.subTest(text):
                self.assertEqual(read_names(row), names)
                self.assertEqual(kinds(read_names(row)), kinds(names))

    def test_the_words_are_the_names(self):
        for row, text, names in ROWS:
            for word, name in read_names(row):
                with self.subTest(text):
                    self.assertEqual(words_of(row)[word], name)


if __name__ == "__main__":
    unittest.main()
