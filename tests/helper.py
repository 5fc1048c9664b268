"""What several tests need."""

import itertools
import random
import re

from bundlehouse.rows import read_names, read_row
from bundlehouse.texts import read, shown

NAMES = ("x", "y", "z", "v", "w")
FIGURED = ("x", "x2", "x3", "x22", "x23", "y", "y2")
WORK = ("set", "take", "say", "need", "ask")
WAYS = ("tight", "one", "cheapest")


def kinds(value):
    """The kinds of a value and of all in it: True == 1, but their kinds are unlike."""
    if isinstance(value, tuple):
        return tuple(kinds(inner) for inner in value)
    return type(value)


def parts_of(text):
    """Parts from a text with one row a line, or several parted by commas."""
    return read("\n".join(row.strip() for row in text.replace(",", "\n").strip().split("\n")))


def packs_of(text):
    """Packs parted by strokes, their rows by commas: "part a, do b | part b, say 1"."""
    return tuple(tuple(read_row(row.strip()) for row in pack.split(",")) for pack in text.split("|") if pack.strip())


def origins_of(text):
    """Origins of a text like "a a0 a3 | b b12": two heads, rows 0 and 3 of part a, row 12 of part b."""
    return tuple(
        tuple((word[0], int(word[1:]) if word[1:] else None) for word in pack.split())
        for pack in text.split("|") if pack.strip()
    )


def loads_of(text):
    """Loads of a text like "a 0 1, b 2"."""
    words = [piece.split() for piece in text.split(",")]
    return tuple((piece[0], tuple(int(word) for word in piece[1:])) for piece in words)


def line_of(text, origin):
    """The number of a row in the text of parts, by counting the rows behind its part's head."""
    lines = text.split("\n")
    return lines.index("part " + origin[0]) + (0 if origin[1] is None else 1 + origin[1])


def starts_in(text):
    """Where the words of a row's text begin."""
    return [found.start() for found in re.finditer("[^ ]+", text)]


def any_sum(chance, names):
    terms = []
    for k in range(chance.choice((1, 1, 2, 3, 6))):
        sign = chance.choice((1, -1)) if k else 1
        terms.append((sign, chance.choice(names) if names and chance.random() < 0.7 else chance.randrange(4)))
    return tuple(terms)


def own_row(chance, own, names):
    if chance.random() < 0.4:
        return ("take", own)
    return ("set", own, any_sum(chance, names))


def reading_row(chance, names, others):
    when = chance.choice(names) if names and chance.random() < 0.5 else None
    kind = chance.choice(("say", "say", "need", "ask") if others else ("say", "need"))
    if kind == "say":
        return ("say", any_sum(chance, names), when)
    if kind == "need":
        return ("need", any_sum(chance, names)[:5] + ((1, 2),))
    return ("ask", chance.choice(others), when)


def bring_rows(chance, others, names, gives):
    """Bring rows that bring in each of these names, and perhaps one more that brings in none."""
    pairs = {}
    for own in names:
        other = chance.choice(others)
        pairs.setdefault(other, []).append((chance.choice(gives[other]), own))
    rows = [("bring", other, tuple(found)) for other, found in pairs.items()]
    if others and chance.random() < 0.4:
        rows.append(("bring", chance.choice(others), ()))
    return rows


def tame_rows(chance, part, below, others, gives, owns):
    """Rows that read only names from above, and bring in only parts from below: no name is early but by asking."""
    cut = chance.randrange(len(owns) + 1) if below else len(owns)
    rows = bring_rows(chance, below, owns[cut:], gives)
    known = owns[cut:]
    for own in owns[:cut]:
        rows.append(own_row(chance, own, list(known)))
        known.append(own)
    for number in range(chance.randrange(5)):
        rows.append(reading_row(chance, owns, others))
    return rows


def wild_rows(chance, part, others, gives, owns):
    cut = chance.randrange(len(owns) + 1) if others else len(owns)
    rows = bring_rows(chance, others, owns[cut:], gives)
    rows.extend(own_row(chance, own, owns) for own in owns[:cut])
    rows.extend(reading_row(chance, owns, others) for number in range(chance.randrange(4)))
    chance.shuffle(rows)
    return rows


def rows_by_chance(chance, part, all_parts, gives, tame):
    others = [other for other in all_parts if other != part]
    owns = list(chance.sample(NAMES, chance.randrange(1, len(NAMES) + 1)))
    if tame:
        rows = tame_rows(chance, part, all_parts[all_parts.index(part) + 1:], others, gives, owns)
    else:
        rows = wild_rows(chance, part, others, gives, owns)
    for given in gives[part]:
        rows.insert(chance.randrange(len(rows) + 1), ("give", chance.choice(owns), given))
    return tuple(rows)


def parts_by_chance(seed, most=6):
    """Parts that stand the check but perhaps for Endless: the same for the same seed."""
    chance = random.Random(seed)
    all_parts = ["p" + str(k) for k in range(chance.randrange(1, most + 1))]
    chance.shuffle(all_parts)
    gives = {part: ["g" + str(k) for k in range(chance.randrange(1, 4))] for part in all_parts}
    tame = chance.random() < 0.6
    found = [(part, rows_by_chance(chance, part, all_parts, gives, tame)) for part in all_parts]
    chance.shuffle(found)
    return tuple(found)


def net_by_chance(seed, most=8):
    """Parts with bring and ask rows alone, some of them more than once: the same for the same seed."""
    chance = random.Random(seed)
    names = ["p" + str(k) for k in range(chance.randrange(1, most + 1))]
    chance.shuffle(names)
    density = chance.choice((1, 1, 2, 3, 4)) if len(names) > 1 else 0
    parts = []
    for part in names:
        others = [other for other in names if other != part]
        rows = [("bring", chance.choice(others), ()) for k in range(chance.randrange(density + 1))]
        rows += [("ask", chance.choice(others), None) for k in range(chance.randrange(density + 1))]
        parts.append((part, tuple(chance.sample(rows, len(rows)))))
    return tuple(parts)


def slow_bringings(parts):
    return sorted({(part, row[1]) for part, rows in parts for row in rows if row[0] == "bring"})


def slow_step(parts, part, name):
    """Where a name comes from: its row, or the name of another part."""
    rows = [rows for other, rows in parts if other == part][0]
    for number, row in enumerate(rows):
        if row[0] in ("set", "take") and row[1] == name:
            return ("row", part, number)
        for given, own in row[2] if row[0] == "bring" else ():
            if own == name:
                other = [inner for found, inner in parts if found == row[1]][0]
                return ("name", row[1], [there[1] for there in other if there[0] == "give" and there[2] == given][0])


def slow_maker(parts, part, name):
    """The maker of a name, or None where it lies in a ring or leads to one."""
    for count in range(1 + sum(len(rows) * 6 for other, rows in parts)):
        kind, part, name = slow_step(parts, part, name)
        if kind == "row":
            return (part, name)
    return None


def slow_pairs(parts, steps=("bring", "ask")):
    """All pairs of parts of which the first comes to the second by these rows, until no more are found."""
    pairs = {(part, part) for part, rows in parts}
    pairs |= {(part, row[1]) for part, rows in parts for row in rows if row[0] in steps}
    while True:
        more = {(one, third) for one, two in pairs for other, third in pairs if two == other}
        if more <= pairs:
            return pairs
        pairs |= more


def owned(rows):
    names = [row[1] for row in rows if row[0] in ("set", "take")]
    return names + [own for row in rows if row[0] == "bring" for given, own in row[2]]


def is_endless(parts):
    return any(slow_maker(parts, part, name) is None for part, rows in parts for name in owned(rows))


def sound_parts(count, most=6):
    """So many seeds' parts, those that stand the check alone."""
    found = [parts_by_chance(seed, most) for seed in range(count)]
    return [parts for parts in found if not is_endless(parts)]


def places(text):
    """The places of a text like "a0 b12": part a, row 0, and part b, row 12."""
    return [(word[0], int(word[1:])) for word in text.split()]


def slow_sure(parts, pairs, part, number, name):
    for row in dict(parts)[part][:number]:
        if row[0] in ("set", "take") and row[1] == name:
            return True
        if row[0] == "bring" and name in [own for given, own in row[2]]:
            return not ((part, row[1]) in pairs and (row[1], part) in pairs)
    return False


def slow_loud(parts, pairs, part, number):
    row = dict(parts)[part][number]
    return row[0] != "set" or not all(slow_sure(parts, pairs, part, number, name) for word, name in read_names(row))


def slow_kept(parts, beginnings):
    """All kept rows, with whether each is loud, until no more are found."""
    pairs = slow_pairs(parts)
    kept = {}
    for part, rows in parts:
        if any((one, part) in pairs for one in beginnings):
            for number, row in enumerate(rows):
                if row[0] in WORK and slow_loud(parts, pairs, part, number):
                    kept[(part, number)] = True
    while True:
        more = set()
        for part, number in kept:
            for word, name in read_names(dict(parts)[part][number]):
                more.add(slow_maker(parts, part, name))
        if more <= set(kept):
            return kept
        kept.update((place, False) for place in more - set(kept))


def largest():
    """As many parts of as many rows as may be, each bringing in what the one below gives."""
    parts = []
    for k in range(24):
        rows = [("give", "x" + str(n), "g" + str(n)) for n in range(6)]
        if k < 23:
            rows.append(("bring", "p" + str(k + 1), tuple(("g" + str(n), "y" + str(n)) for n in range(6))))
        else:
            rows.extend(("take", "y" + str(n)) for n in range(6))
        rows.extend(("set", "x" + str(n), tuple((1, "y" + str(m)) for m in range(6))) for n in range(6))
        while len(rows) < 40:
            rows.append(("say", tuple((1, "x" + str(m)) for m in range(6)), "y0"))
        parts.append(("p" + str(k), tuple(rows)))
    return tuple(parts)


def figured(parts, seed):
    """The same parts with other names of their own, many of them with figures at the end."""
    chance = random.Random(seed)
    lines = []
    for part in parts:
        others = dict(zip(NAMES, chance.sample(FIGURED, len(NAMES))))
        for line in shown((part,)).split("\n"):
            lines.append(" ".join(others.get(word, word) for word in line.split(" ")))
    return read("\n".join(lines))


def some_beginnings(parts):
    """Several tuples of beginnings: each part alone, some pairs, all parts."""
    names = [part for part, rows in parts]
    return list(itertools.permutations(names, 1)) + list(itertools.permutations(names, 2))[:8] + [tuple(names)]


def all_cuts(numbers):
    """All ways to lay these numbers together."""
    if not numbers:
        return [()]
    found = []
    for cut in all_cuts(numbers[:-1]):
        found.append(cut + (numbers[-1:],))
        found.extend(cut[:k] + (cut[k] + numbers[-1:],) + cut[k + 1:] for k in range(len(cut)))
    return found


def without_asks(parts):
    return tuple((part, tuple(row for row in rows if row[0] != "ask")) for part, rows in parts)


def told_numbers(seed):
    """Several tuples of told numbers, the same for the same seed."""
    chance = random.Random(seed)
    return ((),) + tuple(tuple(chance.randrange(-3, 6) for k in range(length)) for length in (1, 3, 12))


def led_back(told, places):
    """What a run tells, with other places: a dict from (PART, row) to (PART, row)."""
    deeds, fault = told
    found = tuple(deed[:2] + places[deed[2:]] for deed in deeds)
    return (found, fault and fault[:1] + places[fault[1:3]] + fault[3:])


def hold_untouched(case, told):
    """The parts handed in stay as they are, and what is told of them hangs on nothing that was asked before."""
    all_parts = sound_parts(60)
    before = repr(all_parts)
    first = [told(parts) for parts in all_parts]
    case.assertEqual(repr(all_parts), before)
    case.assertEqual([told(parts) for parts in all_parts[::-1]][::-1], first)
