"""Groups: the parts that the same roots come to, with how many rows they have in packs."""

from bundlehouse.net import order, placed_rows


def roots(parts, beginnings):
    asked = [row[1] for part, number, row in placed_rows(parts) if row[0] == "ask"]
    return beginnings + tuple([part for part, rows in parts if part in asked and part not in beginnings])


def colour(parts, some, part):
    return colours(parts, some)[part]


def colours(parts, some):
    found = {}
    for part, rows in parts:
        found[part] = 0
    worth = 1
    for root in some:
        for part in order(parts, root):
            found[part] += worth
        worth += worth
    return found


def groups(parts, beginnings):
    found = colours(parts, roots(parts, beginnings))
    members = {}
    for part, rows in parts:
        if found[part] > 0:
            members.setdefault(found[part], []).append(part)
    return tuple([(tint, tuple(names), size_of(parts, names)) for tint, names in members.items()])


def size_of(parts, names):
    return sum([size_of_part(rows) for part, rows in parts if part in names])


# A part has its head in a pack, too; give rows lie in none.
def size_of_part(rows):
    return 1 + len([row for row in rows if row[0] != "give"])
