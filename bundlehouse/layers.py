"""Layers: parts laid into folders, and rules that one folder never comes to another."""

from bundlehouse.errors import NoRow
from bundlehouse.net import bringings
from bundlehouse.rows import is_name


def read_layers(text):
    # Split, the text without signs would be one row that is none.
    if text == "":
        return ((), ())
    folders = {}
    rules = []
    for number, line in enumerate(text.split("\n")):
        words = line.split(" ")
        if not is_layer_row(words):
            raise NoRow(number)
        if words[0] == "never":
            rules.append((words[1], words[2]))
        else:
            lay(folders, words[1], words[2:], number)
    return (tuple(folders.items()), tuple(rules))


def is_layer_row(words):
    if not all([is_name(word) for word in words]):
        return False
    if words[0] == "never":
        return len(words) == 3
    return words[0] == "folder" and len(words) > 2


def lay(folders, folder, names, number):
    for name in names:
        if name in folders:
            raise NoRow(number)
        folders[name] = folder


def broken(parts, folders, rules):
    onward = bringings(parts)
    found = []
    for number, rule in enumerate(rules):
        way = shortest_way(onward, laid_in(folders, rule[0]), laid_in(folders, rule[1]))
        if way:
            found.append((number, way))
    return tuple(found)


def laid_in(folders, name):
    return [part for part, folder in folders if folder == name]


# All ways of one length are gone on before a longer one. A part that a way
# begins with may be its end, too, so ends are looked for among all steps, and
# not only among those to parts that were not seen yet.
def shortest_way(onward, starts, ends):
    seen = {}
    ways = [(part,) for part in starts]
    while ways:
        longer = []
        for way in ways:
            for part in onward[way[-1]]:
                if part in ends:
                    return way + (part,)
                if part not in seen:
                    seen[part] = True
                    longer.append(way + (part,))
        ways = longer
    return ()
