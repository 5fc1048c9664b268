import random
import re
import unittest

from helper import WAYS, hold_untouched, kinds, some_beginnings, sound_parts

from bundlehouse.bundles import bundle
from bundlehouse.codes import coded, decoded
from bundlehouse.errors import BundleError, NoMap
from bundlehouse.maps import map_of

SIGNS = "ABCDEFGHIJKLMNOPQRSTUVWXYZabcdefghijklmnopqrstuvwxyz0123456789+/"
LONG = 10 ** 60 - 1

# A number and its code.
NUMBERS = (
    (0, "A"), (1, "C"), (-1, "B"), (2, "E"), (-2, "D"), (15, "e"), (-15, "d"), (16, "gB"), (-16, "f"), (17, "iB"),
    (-17, "hB"), (31, "+B"), (-31, "9B"), (32, "gC"), (-32, "/B"), (-33, "hC"), (511, "+f"), (-511, "9f"),
    (512, "ggB"), (-512, "/f"), (-513, "hgB"), (16383, "+/f"), (16384, "gggB"),
)

# A map and its code.
MAPS = (
    ((), ()),
    (((((0, 0, 0),),),), ("AAA",)),
    (((((1, 2, 3),),),), ("CEG",)),
    (((((16, 15, 32),),),), ("gBegC",)),
    # the column goes by the row, line and old go by the pack
    (((((0, 0, 0), (5, 0, 5)),),), ("AAA,KAK",)),
    (((((3, 4, 5),), ((3, 4, 5),)),), ("GIK;GAA",)),
    (((((3, 4, 5), (7, 6, 9)), ((3, 6, 10), (4, 6, 8))),), ("GIK,IEI;GAC,CAD",)),
    # above what is ahead and below it
    (((((0, 17, 0), (1, 0, 17)),),), ("AiBA,ChBiB",)),
    (((((0, 0, 17),), ((0, 16, 0),), ((0, 0, 16),)),), ("AAiB;AgBhB;AfgB",)),
    # each pack anew
    (((((3, 4, 5),),), (((3, 4, 5),),)), ("GIK", "GIK")),
    (((((0, 0, 0), (1, 1, 1)), ((2, 2, 2),)), (((9, 9, 9),),), (((0, 9, 0),), ((0, 9, 0),))),
     ("AAA,CCC;ECC", "SSS", "ASA;AAA")),
)

# Texts of one pack that are no code.
WRONG = (
    # a sign that is none
    "AA!", "A A", "AAA ", " AAA", "AAA\n", "AA-", "AA_", "AA=", "AAA,AA.", "AAA:AAA", "\tAAA", "AA,;",
    "g!AA", "Ag A", "AAg-", "AgBA,C!A", "AAgB;AA_",
    # a figure too many in a number
    "gAAA", "AgAA", "AAgA", "hAAA", "AAhA", "ggAAA", "AAhgA", "AAA,KgAA", "AAA;AAgA",
    # a number that doesn't end
    "g", "AAg", "Ag", "AAAg", "AA/", "AAA,KAh", "AAh;AAA", "AAh,KAA", "AAA;AAg",
    # too few numbers, too many
    "A", "AA", "hB", "hBA", "AAA,AA", "AAA;A", "AA;AAA", "AA,KAA", "AAAA", "AAAAAA", "AAA,KAAA", "AAA;AAAA",
    "AAAA;AAA", "hBAAA",
    # an empty word, row or text
    "", ",", ";", ",AAA", "AAA,", "AAA,,KAA", ";AAA", "AAA;", "AAA;;AAA", "AAA;,AAA", "AAA,;AAA", ";;",
    # a column that is not above the one ahead of it, or below 0
    "AAA,AAA", "CAA,AAA", "CAA,BAA", "EAA,BAA", "AAA,BAA", "BAA", "hBAA", "AAA;BAA", "AAA,CAA,AAA", "AAA;AAA,AAA",
    # a line or an old below 0
    "ABA", "AAB", "AhBA", "AAhB", "AAA,CBA", "AAA,CAB", "ACA;ADA", "AAC;AAD", "AEA,CBA,CBA,CBA", "ACC,CBB,CAB",
)


def slow_number(number):
    whole = 2 * number if number >= 0 else -2 * number - 1
    figures = []
    while whole or not figures:
        whole, figure = divmod(whole, 32)
        figures.append(figure)
    return "".join(SIGNS[figure + 32] for figure in figures[:-1]) + SIGNS[figures[-1]]


def slow_coded(told):
    texts = []
    for rows in told:
        ahead = [(0, 0)] + [word[1:] for row in rows for word in row]
        count = 0
        lines = []
        for row in rows:
            columns = [0] + [word[0] for word in row]
            words = []
            for place, (column, line, old) in enumerate(row):
                differ = (column - columns[place], line - ahead[count][0], old - ahead[count][1])
                words.append("".join(slow_number(number) for number in differ))
                count += 1
            lines.append(",".join(words))
        texts.append(";".join(lines))
    return tuple(texts)


def slow_value(text):
    whole = sum(SIGNS.index(sign) % 32 * 32 ** place for place, sign in enumerate(text))
    return whole // 2 if whole % 2 == 0 else (-1 - whole) // 2


def slow_decoded(texts):
    """The map whose code the texts are, or None: read loosely, and then held against its own code."""
    told = []
    for text in texts:
        rows, line, old = [], 0, 0
        for row in text.split(";"):
            column, words = 0, []
            for word in row.split(","):
                numbers = [slow_value(found) for found in re.findall("[g-z0-9+/]*[A-Za-f]", word)]
                if len(numbers) != 3:
                    return None
                column, line, old = column + numbers[0], line + numbers[1], old + numbers[2]
                words.append((column, line, old))
            rows.append(tuple(words))
        told.append(tuple(rows))
    return tuple(told) if is_map(told) and slow_coded(told) == texts else None


def is_map(told):
    for row in [row for pack in told for row in pack]:
        columns = [word[0] for word in row]
        if columns != sorted(set(columns)) or any(not 0 <= number <= LONG for word in row for number in word):
            return False
    return True


def map_by_chance(seed):
    chance = random.Random(seed)
    most = chance.choice((3, 40, 2000, LONG))
    packs = []
    for pack in range(chance.randrange(4)):
        rows = []
        for row in range(chance.randrange(1, 4)):
            columns = sorted({chance.randrange(most + 1) for k in range(chance.randrange(1, 5))})
            rows.append(tuple((column, chance.randrange(most + 1), chance.randrange(most + 1)) for column in columns))
        packs.append(tuple(rows))
    return tuple(packs)


def spoiled(texts, seed):
    """The texts with one sign, of those that a code has, put in, left out or in another's place."""
    chance = random.Random(seed)
    number = chance.randrange(len(texts))
    text = texts[number]
    place = chance.randrange(len(text) + 1)
    sign = chance.choice(SIGNS + ",,,;;;AAAggg")
    text = text[:place] + chance.choice((sign, "", sign)) + text[place + chance.randrange(2):]
    return texts[:number] + (text,) + texts[number + 1:]


class Coded(unittest.TestCase):
    def test_numbers(self):
        for number, text in NUMBERS:
            with self.subTest(number):
                self.assertEqual(slow_number(number), text)
                # 3584 ahead, which is ggH, so that nothing is below 0
                self.assertEqual(coded(((((0, 3584, 0), (1, 3584 + number, 0)),),)), ("AggHA,C" + text + "A",))
                self.assertEqual(coded(((((0, 0, 3584),), ((0, 0, 3584 + number),)),)), ("AAggH;AA" + text,))
                if number >= 0:
                    self.assertEqual(coded(((((number, number, number),),),)), (text * 3,))

    def test_each_case(self):
        for told, expected in MAPS:
            with self.subTest(expected):
                self.assertEqual(coded(told), expected)
                self.assertEqual(slow_coded(told), expected)
                self.assertEqual(kinds(coded(told)), (str,) * len(expected))

    def test_sixty_figures(self):
        told = ((((LONG - 1, LONG, 0), (LONG, 0, LONG)), ((0, LONG, 0),)),)
        texts = coded(told)
        self.assertEqual(texts, slow_coded(told))
        self.assertEqual(texts[0], slow_number(LONG - 1) + slow_number(LONG) + "A,C" + slow_number(-LONG)
                         + slow_number(LONG) + ";A" + slow_number(LONG) + slow_number(-LONG))

    def test_by_chance(self):
        for seed in range(300):
            told = map_by_chance(seed)
            self.assertEqual(coded(told), slow_coded(told))


class Decoded(unittest.TestCase):
    def hold_kinds(self, told):
        self.assertIs(type(told), tuple)
        for pack in told:
            self.assertEqual(kinds(pack), tuple(((int, int, int),) * len(row) for row in pack))

    def test_each_case(self):
        for expected, texts in MAPS:
            with self.subTest(texts):
                told = decoded(texts)
                self.assertEqual(told, expected)
                self.assertEqual(kinds(told), kinds(expected))
                self.assertEqual(slow_decoded(texts), expected)

    def test_what_is_coded_is_read_back(self):
        for seed in range(300):
            told = map_by_chance(seed)
            self.assertEqual(decoded(coded(told)), told)
            self.hold_kinds(decoded(coded(told)))

    def test_numbers(self):
        for number, text in NUMBERS:
            if number >= 0:
                self.assertEqual(decoded((text * 3,)), ((((number,) * 3,),),))
            self.assertEqual(decoded(("AggHA,C" + text + "A",)), ((((0, 3584, 0), (1, 3584 + number, 0)),),))

    def test_wrong_ones_are_refused(self):
        for text in WRONG:
            with self.subTest(text):
                self.hold_refused((text,))
                self.assertIsNone(slow_decoded((text,)))

    def hold_refused(self, texts):
        with self.assertRaises(NoMap) as caught:
            decoded(texts)
        self.assertIsInstance(caught.exception, BundleError)

    def test_a_wrong_one_among_others(self):
        for text in WRONG:
            for texts in ((text, "AAA"), ("AAA", text), ("AAA", text, "AAA"), (text, text)):
                self.hold_refused(texts)

    def test_each_sign_that_is_none(self):
        for sign in [chr(code) for code in range(32, 127)] + ["\n", "\t"]:
            if sign in SIGNS:
                continue
            for text in ("AA?", "?AA", "A?A", "AAA?", "?AAA", "?", "g?AA", "Ag?A", "AgBA,C?A", "AAgB;AA?", "AA?B"):
                self.hold_refused((text.replace("?", sign),))

    def test_sixty_figures_and_one_more(self):
        long, longer, down = slow_number(LONG), slow_number(LONG + 1), slow_number(-LONG)
        one = slow_number(-LONG - 1)
        for text, expected in (
            (long + "AA", ((LONG, 0, 0),)), ("A" + long + "A", ((0, LONG, 0),)), ("AA" + long, ((0, 0, LONG),)),
            ("A" + long + "A,C" + down + long, ((0, LONG, 0), (1, 0, LONG))),
            (slow_number(LONG - 1) + "AA,CAA", ((LONG - 1, 0, 0), (LONG, 0, 0))),
        ):
            self.assertEqual(decoded((text,)), ((expected,),))
            self.hold_kinds(decoded((text,)))
        for text in (longer + "AA", "A" + longer + "A", "AA" + longer, long + "AA,CAA", "A" + long + "A,CCA",
                     "AA" + long + ";AAC", "A" + long + "A,C" + one + "A", "AA" + long + ";AA" + one,
                     slow_number(2 * LONG + 1) + "AA", "A" + long + "A,C" + slow_number(-2 * LONG) + "A"):
            with self.subTest(text):
                self.hold_refused((text,))
                self.assertIsNone(slow_decoded((text,)))

    def test_very_long_numbers(self):
        for text in ("g" * 5000 + "B", "/" * 100000 + "B", "AA" + "/" * 100000 + "f", "AA" + "g" * 100000 + "A"):
            self.hold_refused((text,))
            self.hold_refused((text + "AA",))

    def test_spoiled_codes(self):
        read = []
        for seed in range(3000):
            texts = coded(map_by_chance(seed))
            if texts:
                texts = spoiled(texts, seed)
                expected = slow_decoded(texts)
                read.append(expected is not None)
                if expected is None:
                    self.hold_refused(texts)
                else:
                    self.assertEqual(decoded(texts), expected)
                    self.assertEqual(coded(decoded(texts)), texts)
        self.assertGreater(read.count(True), 200)
        self.assertGreater(read.count(False), 200)

    def test_all_short_texts(self):
        signs = "ABCDgh,;"
        read = 0
        for length in range(6):
            for number in range(8 ** length):
                text = "".join(signs[number // 8 ** k % 8] for k in range(length))
                expected = slow_decoded((text,))
                try:
                    self.assertEqual(decoded((text,)), expected)
                    read += 1
                except NoMap:
                    self.assertIsNone(expected, text)
        self.assertGreater(read, 100)

    def test_maps_of_bundles(self):
        for parts in sound_parts(60):
            for beginnings in some_beginnings(parts)[-2:]:
                for way in WAYS:
                    told = map_of(parts, bundle(parts, beginnings, 4, way))
                    self.assertEqual(coded(told), slow_coded(told))
                    self.assertEqual(decoded(coded(told)), told)


def told(parts):
    found = map_of(parts, bundle(parts, (parts[-1][0],)))
    before = repr(found)
    texts = coded(found)
    return (texts, decoded(texts), repr(found) == before)


class HandedIn(unittest.TestCase):
    def test_nothing_handed_in_is_changed_and_nothing_else_counts(self):
        hold_untouched(self, told)
        self.assertTrue(all(told(parts)[2] for parts in sound_parts(60)))


if __name__ == "__main__":
    unittest.main()
