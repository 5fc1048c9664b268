"""New names: each row that makes a name gets one that no other row has, in all parts."""

from bundlehouse.net import made, makers


def new_names(parts):
    owns = list(made(parts))
    # Each name that a row makes, with whether it is a new name already.
    used = {}
    for part, own in owns:
        used[own] = False
    found = []
    for part, own in owns:
        new = numbered(own, used) if used[own] else own
        used[new] = True
        found.append((part, own, new))
    return tuple(found)


# Also a name that is no new name yet is passed over: the row that makes it is
# to keep it.
def numbered(own, used):
    number = 2
    while own + str(number) in used:
        number += 1
    return own + str(number)


# From (PART, OWN), made or brought in, to the new name of its maker.
def makers_names(parts):
    places = makers(parts)
    news = {}
    for part, own, new in new_names(parts):
        news[places[(part, own)]] = new
    found = {}
    for name, place in places.items():
        found[name] = news[place]
    return found


def renamed(parts, part, row):
    return renamed_row(part, dict(parts)[part][row], makers_names(parts))


def renamed_row(part, row, news):
    kind = row[0]
    if kind == "set":
        return ("set", news[(part, row[1])], renamed_sum(part, row[2], news))
    if kind == "take":
        return ("take", news[(part, row[1])])
    if kind == "say":
        return ("say", renamed_sum(part, row[1], news), renamed_when(part, row[2], news))
    if kind == "need":
        return ("need", renamed_sum(part, row[1], news))
    return ("ask", row[1], renamed_when(part, row[2], news))


def renamed_sum(part, terms, news):
    return tuple([(sign, renamed_thing(part, thing, news)) for sign, thing in terms])


def renamed_thing(part, thing, news):
    if isinstance(thing, str):
        return news[(part, thing)]
    return thing


def renamed_when(part, when, news):
    if when is None:
        return None
    return news[(part, when)]
