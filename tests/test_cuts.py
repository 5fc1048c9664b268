import functools
import operator
import random
import unittest

from helper import all_cuts, hold_untouched, kinds, largest, some_beginnings, sound_parts

from bundlehouse.cuts import cheapest, price, single, table, tight
from bundlehouse.errors import BundleError, TooMany
from bundlehouse.groups import groups
from bundlehouse.thinned import thinned

LONG = 10 ** 59 + 7


def groups_of(text):
    """Groups of a text like "1:5 6:2": colours 1 and 6, sizes 5 and 2."""
    pairs = [piece.split(":") for piece in text.split()]
    return tuple((int(tint), ("p" + str(k),), int(size)) for k, (tint, size) in enumerate(pairs))


def cut_of(text):
    """A cut of a text like "02 1": two packs, the groups 0 and 2, and the group 1."""
    return tuple(tuple(int(figure) for figure in word) for word in text.split())


# Price, toll, cut, groups.
PRICES = (
    (0, 4, "", ""),
    # one pack of one group, of one root and of several
    (9, 4, "0", "1:5"),
    (9, 4, "0", "2:5"),
    (9, 4, "0", "1024:5"),
    (18, 4, "0", "3:5"),
    (18, 4, "0", "10:5"),
    (27, 4, "0", "7:5"),
    # one pack of several groups: roots in common count once
    (11, 4, "01", "1:5 1:2"),
    (22, 4, "01", "1:5 2:2"),
    (22, 4, "01", "1:5 3:2"),
    (33, 4, "01", "3:5 6:2"),
    (44, 4, "01", "3:5 12:2"),
    (3 * 16, 4, "012", "3:5 6:2 1:5"),
    # several packs
    (15, 4, "0 1", "1:5 2:2"),
    (21, 4, "0 1", "1:5 3:2"),
    (18 + 12, 4, "0 1", "3:5 6:2"),
    (2 * 14 + 6, 4, "02 1", "1:5 2:2 3:5"),
    (9 + 3 * 11, 4, "0 12", "1:5 4:2 3:5"),
    (9 + 6 + 2 * 9, 4, "0 1 2", "1:5 2:2 3:5"),
    # tolls: none, great ones
    (5, 0, "0", "1:5"),
    (14, 0, "01", "1:5 2:2"),
    (5 + 2, 0, "0 1", "1:5 2:2"),
    (2 * LONG + 14, LONG, "01", "1:5 2:2"),
    (3 * LONG + 9, LONG, "0 1", "1:5 3:2"),
)


def slow_price(some, toll, cut):
    total = 0
    for pack in cut:
        tint = functools.reduce(operator.or_, [some[number][0] for number in pack])
        total += bin(tint).count("1") * sum([some[number][2] for number in pack], toll)
    return total


def slow_table(some, toll):
    told = []
    for place in range(2 ** len(some)):
        numbers = tuple(k for k in range(len(some)) if place // 2 ** k % 2)
        told.append(min(slow_price(some, toll, cut) for cut in all_cuts(numbers)))
    return tuple(told)


def groups_by_chance(seed, count):
    chance = random.Random(seed)
    bits = chance.randrange(4, 7) if count > 3 else chance.randrange(2, 25)
    tints = chance.sample(range(1, 2 ** bits), count)
    most = chance.choice((2, 10, 40, LONG))
    return tuple((tint, ("p" + str(k),), chance.randrange(1, most + 1)) for k, tint in enumerate(tints))


def tolls(seed):
    chance = random.Random(seed)
    return (0, chance.randrange(1, 8), chance.randrange(8, 60))


class Price(unittest.TestCase):
    def test_each_case(self):
        for expected, toll, cut, text in PRICES:
            with self.subTest(toll=toll, cut=cut, text=text):
                told = price(groups_of(text), toll, cut_of(cut))
                self.assertEqual(told, expected)
                self.assertIs(type(told), int)
                self.assertEqual(slow_price(groups_of(text), toll, cut_of(cut)), expected)

    def test_great_sizes(self):
        some = ((1, ("a",), LONG), (2 ** 23 + 1, ("b",), LONG + 1), (2 ** 24 - 1, ("c",), 10 ** 60 - 1))
        self.assertEqual(price(some, 10 ** 60 - 1, ((0,), (1,), (2,))),
                         10 ** 60 - 1 + LONG + 2 * (10 ** 60 + LONG) + 24 * (2 * 10 ** 60 - 2))
        self.assertEqual(price(some, 3, ((0, 1), (2,))), 2 * (2 * LONG + 4) + 24 * (10 ** 60 + 2))
        self.assertEqual(price(some, 3, ((0, 1, 2),)), 24 * (10 ** 60 + 2 * LONG + 3))

    def test_by_chance(self):
        for seed in range(60):
            some = groups_by_chance(seed, seed % 7)
            for toll in tolls(seed) + (LONG,):
                for cut in all_cuts(tuple(range(len(some))))[:60]:
                    self.assertEqual(price(some, toll, cut), slow_price(some, toll, cut))

    def test_24_groups(self):
        some = tuple((2 ** k, ("p" + str(k),), k + 1) for k in range(24))
        self.assertEqual(price(some, 4, tight(some)), 24 * 4 + 300)
        self.assertEqual(price(some, 4, single(some)), 24 * 304)
        self.assertEqual(price(some, 4, (tuple(range(12)), tuple(range(12, 24)))), 12 * 82 + 12 * 226)

    def test_names_are_not_looked_at(self):
        for names in ((), ("b", "b"), ("zz",)):
            some = ((3, names, 5), (6, names, 2))
            self.assertEqual(price(some, 4, ((0, 1),)), 33)
            self.assertEqual([tight(some), single(some)], [((0,), (1,)), ((0, 1),)])
            self.assertEqual([table(some, 4), cheapest(some, 4)], [(0, 18, 12, 30), ((0,), (1,))])


class TightAndSingle(unittest.TestCase):
    def test_of_no_groups(self):
        self.assertEqual([tight(()), single(())], [(), ()])

    def test_of_one(self):
        self.assertEqual([tight(groups_of("6:3")), single(groups_of("6:3"))], [((0,),), ((0,),)])

    def test_of_several(self):
        self.assertEqual(tight(groups_of("1:3 2:1")), ((0,), (1,)))
        self.assertEqual(single(groups_of("1:3 2:1")), ((0, 1),))
        self.assertEqual(tight(groups_of("4:3 2:1 1:9")), ((0,), (1,), (2,)))
        self.assertEqual(single(groups_of("4:3 2:1 1:9")), ((0, 1, 2),))

    def test_of_24(self):
        some = tuple((k, ("p" + str(k),), 1) for k in range(1, 25))
        self.assertEqual(tight(some), tuple((k,) for k in range(24)))
        self.assertEqual(single(some), (tuple(range(24)),))

    def test_kinds(self):
        self.assertEqual(kinds(tight(groups_of("1:3 2:1"))), ((int,), (int,)))
        self.assertEqual(kinds(single(groups_of("1:3 2:1"))), ((int, int),))


# Toll, table, groups.
TABLES = (
    (4, (0,), ""),
    (4, (0, 9), "1:5"),
    (4, (0, 18), "3:5"),
    (0, (0, 5), "1:5"),
    # apart, together
    (4, (0, 9, 6, 15), "1:5 2:2"),
    (4, (0, 5, 12, 14), "1:1 3:2"),
    # as dear apart as together
    (4, (0, 8, 12, 20), "1:4 3:2"),
    # the first and the last together, the one between them apart
    (4, (0, 5, 6, 11, 12, 14, 18, 20), "1:1 4:2 3:2"),
    (LONG, (0, LONG + 1, 2 * LONG + 4, 2 * LONG + 6), "1:1 3:2"),
)


class Table(unittest.TestCase):
    def test_each_case(self):
        for toll, expected, text in TABLES:
            with self.subTest(toll=toll, text=text):
                told = table(groups_of(text), toll)
                self.assertEqual(told, expected)
                self.assertEqual(kinds(told), (int,) * len(expected))
                self.assertEqual(slow_table(groups_of(text), toll), expected)

    def test_by_chance(self):
        for count in range(9):
            for seed in range(8 if count < 7 else 2):
                some = groups_by_chance(seed + 100 * count, count)
                for toll in tolls(seed):
                    with self.subTest(count=count, seed=seed, toll=toll):
                        told = table(some, toll)
                        self.assertEqual(told, slow_table(some, toll))
                        self.assertEqual(kinds(told), (int,) * 2 ** count)

    def test_more_than_eight_are_refused(self):
        for count in (9, 10, 24):
            some = groups_by_chance(count, 9) if count == 9 else tuple((k + 3, ("p",), 2) for k in range(count))
            with self.assertRaises(TooMany) as caught:
                table(some, 4)
            self.assertIsInstance(caught.exception, BundleError)
            self.assertEqual(caught.exception.parts, tuple(tint for tint, names, size in some))
            self.assertEqual(kinds(caught.exception.parts), (int,) * count)


# Toll, the one cheapest cut, groups.
CHEAPEST = (
    (4, "", ""),
    (4, "0", "1:5"),
    (4, "0 1", "1:5 2:2"),
    (4, "01", "1:1 3:2"),
    (1, "0 1", "1:2 3:2"),
    (4, "02 1", "1:1 4:2 3:2"),
    (4, "0 12", "4:2 1:1 3:2"),
    (4, "01 2", "1:1 3:2 4:2"),
    (4, "03 12", "1:1 4:1 12:2 3:2"),
    (9, "0123", "1:1 3:1 7:1 15:1"),
    (LONG, "01 2", "1:1 3:2 4:2"),
    (0, "0 1", "1:1 3:2"),
    (4, "07 1 23456", "1:1 64:9 4:1 12:1 20:1 28:1 8:1 3:2"),
)


class Cheapest(unittest.TestCase):
    def hold_form(self, some, cut):
        self.assertEqual(kinds(cut), tuple((int,) * len(pack) for pack in cut))
        self.assertEqual(sorted(number for pack in cut for number in pack), list(range(len(some))))
        self.assertEqual(cut, tuple(sorted(tuple(sorted(pack)) for pack in cut)))
        self.assertNotIn((), cut)

    def test_each_case(self):
        for toll, expected, text in CHEAPEST:
            with self.subTest(toll=toll, text=text):
                some = groups_of(text)
                prices = {cut: slow_price(some, toll, cut) for cut in all_cuts(tuple(range(len(some))))}
                least = [cut for cut in prices if prices[cut] == min(prices.values())]
                self.assertEqual(cheapest(some, toll), cut_of(expected))
                self.assertEqual([tuple(sorted(cut)) for cut in least], [cut_of(expected)])
                self.hold_form(some, cheapest(some, toll))

    def test_held_against_all_cuts(self):
        seen = []
        for count in range(9):
            cuts = all_cuts(tuple(range(count)))
            for seed in range(12 if count < 7 else 3):
                some = groups_by_chance(seed + 100 * count, count)
                for toll in tolls(seed) + (LONG,):
                    told = cheapest(some, toll)
                    self.hold_form(some, told)
                    self.assertEqual(slow_price(some, toll, told), min(slow_price(some, toll, cut) for cut in cuts))
                    seen.append((told == tight(some), told == single(some)))
        for pair in ((True, False), (False, True), (False, False)):
            self.assertGreater(seen.count(pair), 5, pair)

    def test_its_price_is_the_table_s_last(self):
        for count in range(9):
            for seed in range(10):
                some = groups_by_chance(seed, count)
                for toll in tolls(seed):
                    self.assertEqual(price(some, toll, cheapest(some, toll)), table(some, toll)[-1])

    def test_of_more_than_eight(self):
        # With the size 2, tight and into one cost alike; one more makes tight one less, one less one more.
        for size, differ in ((2, 0), (3, -1), (1, 1)):
            some = groups_of("1:1 2:1 3:1 4:1 5:1 6:1 7:{0} 8:1 9:1".format(size))
            self.assertEqual(slow_price(some, 2, tight(some)) - slow_price(some, 2, single(some)), differ)
            self.assertEqual(cheapest(some, 2), single(some) if differ > 0 else tight(some))

    def test_of_more_than_eight_no_other_cut_is_told(self):
        some = groups_of("1:1 3:2 4:2 8:2 16:2 32:2 64:2 128:2 256:2")
        other = ((0, 1),) + tight(some)[2:]
        self.assertLess(price(some, 4, other), price(some, 4, tight(some)))
        self.assertEqual(cheapest(some, 4), tight(some))

    def test_of_more_than_eight_by_chance(self):
        seen = []
        for count in (9, 10, 16, 24):
            for seed in range(30):
                chance = random.Random(seed)
                tints = chance.sample(range(1, 2 ** 5), count)
                some = tuple((tint, ("p",), chance.randrange(1, 9)) for tint in tints)
                for toll in (0, 2, 4, 8, 16, LONG):
                    told = cheapest(some, toll)
                    self.hold_form(some, told)
                    apart, together = slow_price(some, toll, tight(some)), slow_price(some, toll, single(some))
                    self.assertEqual(told, tight(some) if apart <= together else single(some))
                    seen.append(told == tight(some))
        self.assertGreater(seen.count(True), 50)
        self.assertGreater(seen.count(False), 50)

    def test_not_dearer_than_tight_or_into_one(self):
        for count in range(13):
            for seed in range(20):
                some = groups_by_chance(seed, count)
                for toll in tolls(seed) + (LONG,):
                    least = price(some, toll, cheapest(some, toll))
                    self.assertLessEqual(least, price(some, toll, tight(some)))
                    self.assertLessEqual(least, price(some, toll, single(some)))


class OfToldGroups(unittest.TestCase):
    def test_groups_of_parts(self):
        for parts in sound_parts(60) + [largest()]:
            for beginnings in some_beginnings(parts)[-3:]:
                some = groups(thinned(parts, beginnings[:12])[0], beginnings[:12])
                cuts = [tight(some), single(some), cheapest(some, 4)]
                self.assertEqual([price(some, 4, cut) for cut in cuts], [slow_price(some, 4, cut) for cut in cuts])
                if len(some) <= 6:
                    self.assertEqual(table(some, 4), slow_table(some, 4))


def told(parts):
    some = groups(parts, tuple(part for part, rows in parts))
    cuts = [tight(some), single(some), cheapest(some, 4), cheapest(some, 0)]
    return [cuts, table(some, 4), table(some, 0)] + [price(some, 4, cut) for cut in cuts]


class HandedIn(unittest.TestCase):
    def test_nothing_handed_in_is_changed_and_nothing_else_counts(self):
        hold_untouched(self, told)
        some = groups_by_chance(3, 5)
        before = repr(some)
        self.assertEqual(table(some, 4), table(groups_by_chance(3, 5), 4))
        self.assertEqual(repr(some), before)


if __name__ == "__main__":
    unittest.main()
