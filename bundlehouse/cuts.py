"""Cuts: ways to lay groups together into packs, and what they cost."""

from bundlehouse.errors import TooMany

MOST_GROUPS = 8


def price(groups, toll, cut):
    return sum([pack_price(groups, toll, pack) for pack in cut])


def pack_price(groups, toll, pack):
    colour = 0
    rows = toll
    for number in pack:
        colour |= groups[number][0]
        rows += groups[number][2]
    return len(numbers_in(colour)) * rows


# The numbers of the bits of a whole number that are set, from 0, rising.
def numbers_in(whole):
    return tuple([number for number in range(whole.bit_length()) if whole >> number & 1])


def tight(groups):
    return tuple([(number,) for number in range(len(groups))])


def single(groups):
    if not groups:
        return ()
    return (tuple(range(len(groups))),)


def table(groups, toll):
    return tuple([least for least, pack in best_packs(groups, toll)])


def cheapest(groups, toll):
    if len(groups) <= MOST_GROUPS:
        return least_cut(best_packs(groups, toll))
    apart = tight(groups)
    together = single(groups)
    if price(groups, toll, apart) <= price(groups, toll, together):
        return apart
    return together


# At each place of the table a pair: the least price, and the place of the pack
# in which, at that price, the first group lies.
def best_packs(groups, toll):
    if len(groups) > MOST_GROUPS:
        raise TooMany(tuple([colour for colour, names, size in groups]))
    prices = [pack_price(groups, toll, numbers_in(pack)) for pack in range(1 << len(groups))]
    best = [(0, 0)]
    for place in range(1, len(prices)):
        best.append(min([(prices[pack] + best[place - pack][0], pack) for pack in first_packs(place)]))
    return best


# The first group lies in one pack of each cut, so only packs with it are to be
# tried; what is left then has its place further ahead in the table.
def first_packs(place):
    first = place & -place
    return [pack for pack in range(first, place + 1) if pack & first == first and pack | place == place]


def least_cut(best):
    cut = []
    left = len(best) - 1
    while left > 0:
        pack = best[left][1]
        cut.append(numbers_in(pack))
        left -= pack
    return tuple(cut)
