import unittest

from helper import (
    WAYS, figured, hold_untouched, kinds, largest, line_of, parts_of, some_beginnings, sound_parts, starts_in,
)

from bundlehouse.bundles import bundle
from bundlehouse.errors import BundleError, NoPlace
from bundlehouse.maps import back, map_of
from bundlehouse.net import check
from bundlehouse.rows import shown_row
from bundlehouse.texts import shown

LONG = 10 ** 60 - 1

# Beginnings, way, the map (each word as column.line.old), parts.
MAPS = (
    # heads, and rows of work as they were
    ("a", "one", "0.0.0 5.0.5", "part a"),
    ("a", "one", "0.0.0 5.0.5, 0.1.0 5.1.5, 0.2.0 4.2.4 6.2.6 8.2.8, 0.3.0 4.3.4 6.3.6 8.3.8 11.3.11 16.3.16",
     "part a, take x, set y = x, say y - 10 when y"),
    ("a", "one", "0.0.0 5.0.5, 0.1.0 5.1.5, 0.2.0 5.2.5 7.2.7 9.2.9, 0.3.0 4.3.4 6.3.6 11.3.11, 0.4.0 5.4.5",
     "part a, take x, need 7 - x, ask b when x, part b"),
    # a do row: its two words are the first two of the bring row, however many this has
    ("a", "one", "0.0.0 5.0.5, 0.1.0 3.1.6, 0.2.0 5.2.5, 0.3.0 4.3.4", "part a, bring b, part b, say 1"),
    ("a", "one", "0.0.0 5.0.5, 0.1.0 3.1.6, 0.2.0 4.2.4, 0.3.0 5.3.5, 0.4.0 5.4.5",
     "part a, bring b g as y h as z, say y, part b, take x, give x as g, give x as h"),
    # names that are longer than they were
    ("a", "one", "0.0.0 5.0.5, 0.1.0 5.1.5, 0.2.0 3.2.6,"
     "0.3.0 4.3.4 7.3.6 9.3.8 12.3.10 14.3.12 16.3.14 21.3.19, 0.4.0 5.4.5, 0.5.0 5.5.5",
     "part a, take x, bring b g as y, say y - y + x when y, part b, take x, give x as g"),
    ("a", "one", "0.0.0 5.0.5, 0.1.0 3.1.6, 0.2.0 5.2.5, 0.3.0 4.3.4, 0.4.0 5.4.5, 0.5.0 4.5.4 7.5.6 9.5.8,"
     "0.6.0 4.6.4", "part a, bring b, take x, say x, part b, set x = 1, say x"),
    # and shorter
    ("a", "one", "0.0.0 5.0.5, 0.1.0 3.1.6, 0.2.0 4.2.4 12.2.12 14.2.14 16.2.16 18.2.18,"
     "0.3.0 5.3.5 13.3.13 15.3.15 17.3.22 19.3.24, 0.4.0 5.4.5, 0.5.0 5.5.5",
     "part a, bring b g as longer, set longest = 3 - longer, need longest - longer - 1, part b, take x, give x as g"),
    # lines of the text of all parts handed in, of which some, and some rows, are left out
    ("a", "one", "0.2.0 5.2.5, 0.5.0 3.5.6, 0.6.0 4.6.4, 0.9.0 5.9.5, 0.11.0 4.11.4",
     "part z, say 9, part a, set u = 1, bring y, bring b, say 1, part y, set x = 1, part b, set w = 1, say 2"),
    # several packs
    ("ab", "tight", "0.0.0 5.0.5, 0.1.0 3.1.6 | 0.2.0 5.2.5, 0.3.0 3.3.6 | 0.4.0 5.4.5, 0.5.0 4.5.4",
     "part b, bring c, part a, bring c, part c, say 1"),
    ("ab", "tight", "0.0.0 5.0.5, 0.1.0 3.1.6, 0.3.0 5.3.5, 0.4.0 4.4.4 | 0.2.0 5.2.5",
     "part b, bring d, part a, part d, say 1"),
    ("ab", "cheapest", "0.0.0 5.0.5, 0.1.0 3.1.6, 0.3.0 5.3.5, 0.4.0 4.4.4 | 0.2.0 5.2.5",
     "part b, bring d, part a, part d, say 1"),
)


def row_told(text):
    return tuple(tuple(int(number) for number in word.split(".")) for word in text.split())


def map_told(text):
    return tuple(tuple(row_told(row) for row in pack.split(",")) for pack in text.split("|"))


def slow_map(parts, laid):
    text = shown(parts)
    told = []
    for rows, origins in zip(laid[0], laid[1]):
        pack = []
        for row, origin in zip(rows, origins):
            line = line_of(text, origin)
            olds = starts_in(text.split("\n")[line])
            pack.append(tuple((column, line, old) for column, old in zip(starts_in(shown_row(row)), olds)))
        told.append(tuple(pack))
    return tuple(told)


def slow_back(told, pack, row, column):
    """The pair of the last word at the column or ahead of it, or None."""
    found = None
    for number, rows in enumerate(told):
        for place, words in enumerate(rows):
            for start, line, old in words:
                if (number, place) == (pack, row) and start <= column:
                    found = (line, old)
    return found


class Maps(unittest.TestCase):
    def hold_kinds(self, told):
        self.assertIs(type(told), tuple)
        for pack in told:
            self.assertEqual(kinds(pack), tuple(((int, int, int),) * len(row) for row in pack))

    def test_each_case(self):
        for beginnings, way, expected, text in MAPS:
            with self.subTest(text=text, beginnings=beginnings, way=way):
                parts = parts_of(text)
                self.assertIsNone(check(parts))
                laid = bundle(parts, tuple(beginnings), 0, way)
                told = map_of(parts, laid)
                self.assertEqual(told, map_told(expected))
                self.assertEqual(told, slow_map(parts, laid))
                self.hold_kinds(told)

    def test_by_chance(self):
        changed = 0
        found = sound_parts(80)
        found += [figured(parts, seed) for seed, parts in enumerate(found[:40])] + sound_parts(8, 12)
        for parts in found:
            for beginnings in some_beginnings(parts)[::2]:
                for way in WAYS:
                    laid = bundle(parts, beginnings, 4, way)
                    told = map_of(parts, laid)
                    self.assertEqual(told, slow_map(parts, laid))
                    self.hold_kinds(told)
                    changed += any(column != old for pack in told for row in pack for column, line, old in row)
        self.assertGreater(changed, 200)

    def test_each_row_has_as_many_words_as_it_is_written_with(self):
        for parts in sound_parts(40):
            laid = bundle(parts, (parts[0][0],))
            told = map_of(parts, laid)
            for rows, pack in zip(laid[0], told):
                self.assertEqual([len(row) for row in pack], [len(shown_row(row).split(" ")) for row in rows])

    def test_each_word_but_a_name_and_do_is_the_same_there(self):
        for parts in sound_parts(40):
            lines = shown(parts).split("\n")
            laid = bundle(parts, (parts[0][0],))
            for rows, pack in zip(laid[0], map_of(parts, laid)):
                for row, words in zip(rows, pack):
                    for word, (column, line, old) in zip(shown_row(row).split(" "), words):
                        there = lines[line][old:].split(" ")[0]
                        if word == "do":
                            self.assertEqual(there, "bring")
                        elif not word[0].isalpha() or row[0] in ("part", "do"):
                            self.assertEqual(there, word)

    def test_names_of_more_than_eight_signs(self):
        parts = parts_of("part a, bring b, take abcdefgh, part b, take abcdefgh, say abcdefgh when abcdefgh")
        self.assertEqual(map_of(parts, bundle(parts, ("a",)))[0][-1],
                         ((0, 5, 0), (4, 5, 4), (14, 5, 13), (19, 5, 18)))

    def test_most_parts_and_rows(self):
        parts = largest()
        beginnings = tuple(part for part, rows in parts[:12])
        for way in WAYS:
            laid = bundle(parts, beginnings, 4, way)
            self.assertEqual(map_of(parts, laid), slow_map(parts, laid))


BY_HAND = ((((2, 5, 7), (4, 5, 9), (9, 3, 0)), ((0, 8, 1),)), (((0, LONG, 0), (LONG, 0, LONG)),))

# Pack, row, column, where it is led back.
BACK = (
    # at a word's begin, amid it, one ahead of it, behind the last one
    (0, 0, 2, (5, 7)), (0, 0, 3, (5, 7)), (0, 0, 4, (5, 9)), (0, 0, 5, (5, 9)), (0, 0, 8, (5, 9)), (0, 0, 9, (3, 0)),
    (0, 0, 10, (3, 0)), (0, 0, 10 ** 9, (3, 0)), (0, 0, 10 ** 80, (3, 0)),
    (0, 1, 0, (8, 1)), (0, 1, 1, (8, 1)),
    (1, 0, 0, (LONG, 0)), (1, 0, LONG - 1, (LONG, 0)), (1, 0, LONG, (0, LONG)), (1, 0, LONG + 1, (0, LONG)),
)
NOWHERE = (
    # ahead of the first word, below 0
    (0, 0, 1), (0, 0, 0), (0, 0, -1), (0, 1, -1), (1, 0, -LONG),
    # no such pack
    (-1, 0, 5), (-2, 0, 5), (2, 0, 5), (3, 0, 5), (LONG, 0, 5), (-LONG, 0, 5),
    # no such row
    (0, -1, 5), (0, -2, 5), (0, 2, 5), (0, 3, 5), (1, 1, 5), (1, -1, 5), (0, LONG, 5), (0, -LONG, 5),
    (-1, -1, -1),
)


class Back(unittest.TestCase):
    def test_each_case(self):
        for pack, row, column, expected in BACK:
            with self.subTest(pack=pack, row=row, column=column):
                told = back(BY_HAND, pack, row, column)
                self.assertEqual(told, expected)
                self.assertEqual(kinds(told), (int, int))
                self.assertEqual(slow_back(BY_HAND, pack, row, column), expected)

    def test_refused(self):
        for pack, row, column in NOWHERE:
            with self.subTest(pack=pack, row=row, column=column):
                with self.assertRaises(NoPlace) as caught:
                    back(BY_HAND, pack, row, column)
                self.assertIsInstance(caught.exception, BundleError)
                self.assertIsNone(slow_back(BY_HAND, pack, row, column))

    def test_of_no_packs(self):
        for pack in (-1, 0, 1):
            with self.assertRaises(NoPlace):
                back((), pack, 0, 0)

    def test_maps_of_bundles(self):
        for parts in sound_parts(40):
            for beginnings in some_beginnings(parts)[-2:]:
                laid = bundle(parts, beginnings)
                told = map_of(parts, laid)
                for pack, rows in enumerate(laid[0]):
                    for number, row in enumerate(rows):
                        for column in range(len(shown_row(row)) + 2):
                            self.assertEqual(back(told, pack, number, column), slow_back(told, pack, number, column))

    def test_a_word_s_signs_lead_to_the_word_where_it_was_written(self):
        parts = parts_of("part a, take x, bring b g as y, say y - 12 when x, part b, take x, give x as g")
        laid = bundle(parts, ("a",))
        told = map_of(parts, laid)
        text = shown_row(laid[0][0][3])
        self.assertEqual(text, "say x2 - 12 when x")
        lines = shown(parts).split("\n")
        words = []
        for column in range(len(text)):
            line, old = back(told, 0, 3, column)
            words.append(lines[line][old:].split(" ")[0])
        self.assertEqual(words, ["say"] * 4 + ["y"] * 3 + ["-"] * 2 + ["12"] * 3 + ["when"] * 5 + ["x"])


def told(parts):
    laid = bundle(parts, (parts[-1][0],))
    before = repr(laid)
    found = map_of(parts, laid)
    again = repr(found)
    places = [back(found, pack, row, 7) for pack, rows in enumerate(found) for row in range(len(rows))]
    return (found, places, repr(laid) == before, repr(found) == again)


class HandedIn(unittest.TestCase):
    def test_nothing_handed_in_is_changed_and_nothing_else_counts(self):
        hold_untouched(self, told)
        self.assertTrue(all(all(told(parts)[2:]) for parts in sound_parts(60)))


if __name__ == "__main__":
    unittest.main()
