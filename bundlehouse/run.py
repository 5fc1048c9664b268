"""A run: the rows of a root, and of the parts that it begins, are done."""

from bundlehouse.net import makers
from bundlehouse.rows import read_names


def run(parts, root, numbers):
    return PartsWalk(parts).go(root, numbers)


# A walk keeps nothing of how it is gone along, so that it may be gone along
# any number of times; each time has a Going of its own.
class Walk:
    def rows_of(self, part):
        return ()

    def key_of(self, part, name):
        return name

    def loads_of(self, part):
        return ()

    def ahead_of(self, root):
        return ()

    def go(self, root, numbers):
        going = Going(self, numbers)
        going.load(self.loads_of(root))
        going.load(self.ahead_of(root))
        going.begin(root)
        going.go_on()
        return (tuple(going.trace), going.fault)


class PartsWalk(Walk):
    def __init__(self, parts):
        self.rows = dict(parts)
        self.makers = makers(parts)

    def rows_of(self, part):
        return tuple([(part, number, row) for number, row in enumerate(self.rows[part])])

    def key_of(self, part, name):
        return self.makers[(part, name)]


class Going:
    def __init__(self, walk, numbers):
        self.walk = walk
        self.numbers = numbers
        self.taken = 0
        self.begun = {}
        self.loaded = {}
        self.given = {}
        # The rows that are still to be done, the next one last. A part that
        # is begun lays its rows on top, so they come ahead of all others.
        self.waiting = []
        self.trace = []
        self.fault = None

    def load(self, packs):
        for pack in packs:
            if pack not in self.loaded:
                self.loaded[pack] = True
                self.trace.append(("load", pack))

    def begin(self, part):
        self.begun[part] = True
        for place, number, row in reversed(self.walk.rows_of(part)):
            self.waiting.append((part, (place, number), row))

    def go_on(self):
        while self.waiting and self.fault is None:
            step = self.waiting.pop()
            self.do_row(step[0], step[1], step[2])

    def do_row(self, part, where, row):
        if self.is_off(part, row):
            return
        word = self.early_word(part, row)
        if word is not None:
            self.fault = ("early",) + where + (word,)
        elif row[0] in ("bring", "do", "ask"):
            self.enter(row[0], row[1])
        else:
            self.do_work(part, where, row)

    # Where the name behind when was not given yet, the row is not off: it
    # reads that name, and that is its fault.
    def is_off(self, part, row):
        if row[0] not in ("say", "ask") or row[2] is None:
            return False
        key = self.walk.key_of(part, row[2])
        return key in self.given and self.given[key] <= 0

    def early_word(self, part, row):
        for word, name in read_names(row):
            if self.walk.key_of(part, name) not in self.given:
                return word
        return None

    def enter(self, kind, part):
        if part in self.begun:
            return
        if kind == "ask":
            self.load(self.walk.loads_of(part))
        self.begin(part)

    def do_work(self, part, where, row):
        kind = row[0]
        if kind == "set":
            self.give(part, row[1], self.value_of(part, row[2]))
        elif kind == "take":
            value = self.next_told()
            self.give(part, row[1], value)
            self.trace.append(("take", value) + where)
        elif kind == "say":
            self.trace.append(("say", self.value_of(part, row[1])) + where)
        elif kind == "need" and self.value_of(part, row[1]) <= 0:
            self.fault = ("need",) + where + (0,)

    def give(self, part, name, value):
        self.given[self.walk.key_of(part, name)] = value

    def next_told(self):
        if self.taken == len(self.numbers):
            return 0
        self.taken += 1
        return self.numbers[self.taken - 1]

    def value_of(self, part, terms):
        total = 0
        for sign, thing in terms:
            total += sign * self.thing_value(part, thing)
        return total

    def thing_value(self, part, thing):
        if isinstance(thing, str):
            return self.given[self.walk.key_of(part, thing)]
        return thing
