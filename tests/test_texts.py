import unittest

from helper import kinds

from bundlehouse.errors import NoRow
from bundlehouse.texts import read, shown

SAY = ("say", ((1, 3), (-1, "x")), "when")
EVERY = (
    ("bring", "b", (("g", "x"), ("h", "y"))),
    ("give", "x", "z"),
    ("set", "s", ((1, "x"), (1, 0))),
    ("take", "when"),
    SAY,
    ("need", ((1, "s"),)),
    ("ask", "c", None),
    ("ask", "c", "when"),
)
EVERY_TEXT = (
    "bring b g as x h as y\ngive x as z\nset s = x + 0\ntake when\nsay 3 - x when when\n"
    "need s\nask c\nask c when when"
)

BOTH = (
    ((), ""),
    ((("a", ()),), "part a"),
    ((("a", ()), ("b", ())), "part a\npart b"),
    ((("a", ()), ("a", ())), "part a\npart a"),
    ((("a", (("take", "x"), ("take", "x"))), ("b", ()), ("a", (("take", "x"),))),
     "part a\ntake x\ntake x\npart b\npart a\ntake x"),
    ((("a", EVERY), ("part", (SAY,))), "part a\n" + EVERY_TEXT + "\npart part\nsay 3 - x when when"),
    ((("abcdefgh", (("ask", "abcdefgh", None),)),), "part abcdefgh\nask abcdefgh"),
)

# Each text that is none of parts, and the number of its first wrong row.
REFUSED = (
    ("\n", 0),
    (" ", 0),
    ("part", 0),
    ("part A", 0),
    ("\npart a", 0),
    ("part a\n", 1),
    ("part a\n\n", 1),
    ("part a\n\ntake x", 1),
    ("part a\ntake x\n", 2),
    ("part a\ntake x\npart b\n", 3),
    ("part a\ntake x ", 1),
    ("part a\ntake 1\ndo a", 1),
    ("part a\ndo a\ntake 1", 1),
    ("part a\ndo a", 1),
    ("part a\ntake x\npart b\ndo a\ntake y", 3),
    ("do a", 0),
    ("do a\npart a", 0),
    ("take x", 0),
    ("take x\npart a", 0),
    ("bring a\npart a\ntake 1", 0),
    ("give x as y\ntake 1", 0),
    ("take 1\ntake x", 0),
    ("part a\npart abcdefghi", 1),
    ("part a\nsay 00", 1),
    ("part a\nsay " + "9" * 61, 1),
    ("part a\nsay x\nbring b" + " x as y" * 7, 2),
    ("part a\n part b", 1),
    ("part a\n\tsay x", 1),
)


def refused(text):
    try:
        return ("parts", read(text))
    except NoRow as error:
        return error.number


class Parts(unittest.TestCase):
    def test_shown(self):
        for parts, text in BOTH:
            with self.subTest(text):
                self.assertEqual(shown(parts), text)
                self.assertIs(type(shown(parts)), str)

    def test_read(self):
        for parts, text in BOTH:
            with self.subTest(text):
                self.assertEqual(read(text), parts)
                self.assertEqual(kinds(read(text)), kinds(parts))

    def test_refused(self):
        for text, number in REFUSED:
            with self.subTest(text):
                self.assertEqual(refused(text), number)
                self.assertIs(type(refused(text)), int)

    def test_a_refusal_leaves_nothing_behind(self):
        for text, number in REFUSED:
            refused(text)
            self.assertEqual(read("part a\ntake x"), (("a", (("take", "x"),)),))

    def test_each_wrong_row_is_told_by_its_number(self):
        lines = ["part a"] + ["say x"] * 30 + ["part b"] + ["take x"] * 30
        for number in range(len(lines)):
            for wrong in ("", "say", "do a", "say x ", "take xX"):
                broken = lines[:number] + [wrong] + lines[number + 1:]
                self.assertEqual(refused("\n".join(broken)), number)
                twice = broken[:number + 1] + ["do a"] + broken[number + 1:]
                self.assertEqual(refused("\n".join(twice)), number)

    def test_many_rows(self):
        rows = (("say", ((1, 10 ** 59),) * 6, "abcdefgh"),)
        one = (("a", rows * 999),)
        self.assertEqual(read(shown(one)), one)
        many = tuple(("p" + str(k), ()) for k in range(1000))
        self.assertEqual(read(shown(many)), many)
        self.assertEqual(refused(shown(many) + "\n" + "x" * 1000), 1000)

    def test_nothing_handed_in_is_changed(self):
        before = repr(BOTH)
        told = [(shown(parts), read(text)) for parts, text in BOTH]
        self.assertEqual(repr(BOTH), before)
        self.assertEqual([(shown(parts), read(text)) for parts, text in reversed(BOTH)][::-1], told)

    def test_new_names_are_written(self):
        parts = (("a", (("take", "abcdefgh2"), ("say", ((1, "abcdefgh2"),), None))),)
        self.assertEqual(shown(parts), "part a\ntake abcdefgh2\nsay abcdefgh2")


if __name__ == "__main__":
    unittest.main()
