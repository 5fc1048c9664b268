"""Bundles played: their packs are loaded, and the rows in them are done as in a run."""

from bundlehouse.knots import spread
from bundlehouse.run import Walk


def play(bundle, root, numbers, ahead=False):
    return PacksWalk(bundle, ahead).go(root, numbers)


# A name stands for one maker in all packs, so it is known by itself, as Walk
# has it.
class PacksWalk(Walk):
    def __init__(self, bundle, ahead=False):
        self.blocks = blocks_in(bundle[0])
        self.loads = bundle[2]
        self.ahead = ahead

    def rows_of(self, part):
        return tuple(self.blocks[part])

    def loads_of(self, part):
        return dict(self.loads).get(part, ())

    def ahead_of(self, root):
        if not self.ahead:
            return ()
        come = spread(next_parts(self.blocks), (root,))
        found = []
        for other, packs in self.loads:
            if other in come:
                found.extend(packs)
        return tuple(found)


# From each part to the rows behind its head, each with its pack and number.
def blocks_in(packs):
    found = {}
    for place, rows in enumerate(packs):
        part = None
        for number, row in enumerate(rows):
            if row[0] == "part":
                part = row[1]
                found[part] = []
            else:
                found[part].append((place, number, row))
    return found


def next_parts(blocks):
    onward = {}
    for part in blocks:
        onward[part] = [row[1] for place, number, row in blocks[part] if row[0] in ("do", "ask")]
    return onward
