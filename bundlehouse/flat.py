"""A beginning laid flat: all work that it comes to as rows of one part."""

from bundlehouse.errors import Asks
from bundlehouse.names import makers_names, renamed_row
from bundlehouse.net import order


def flat(parts, root):
    refuse_asks(parts, root)
    news = makers_names(parts)
    work = work_in_order(parts, root)
    rows = [renamed_row(part, row, news) for part, number, row in work]
    origins = [(part, number) for part, number, row in work]
    return (tuple(rows), tuple(origins))


# By the begun order, so an ask row of the root is told ahead of one that a
# run would come to earlier, in a part that the root brings in above.
def refuse_asks(parts, root):
    rows = dict(parts)
    for part in order(parts, root):
        for number, row in enumerate(rows[part]):
            if row[0] == "ask":
                raise Asks(part, number)


# The rows still to come wait with the next one last, so that those of a part
# that is begun come ahead of all others.
def work_in_order(parts, root):
    rows = dict(parts)
    begun = {root: True}
    waiting = last_first(root, rows[root])
    work = []
    while waiting:
        step = waiting.pop()
        row = step[2]
        if row[0] in ("set", "take", "say", "need"):
            work.append(step)
        elif row[0] == "bring" and row[1] not in begun:
            begun[row[1]] = True
            waiting.extend(last_first(row[1], rows[row[1]]))
    return work


def last_first(part, rows):
    steps = [(part, number, row) for number, row in enumerate(rows)]
    return list(reversed(steps))
