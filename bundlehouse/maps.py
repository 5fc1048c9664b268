"""Maps: from each word of a pack back to where it was written."""

from bundlehouse.errors import NoPlace
from bundlehouse.rows import words_of


def map_of(parts, bundle):
    lines = written_rows(parts)
    return tuple([map_of_pack(rows, origins, lines) for rows, origins in zip(bundle[0], bundle[1])])


# From each origin, (PART, row) or a head's (PART, None), to the row that was
# written there, with its number in the text of all parts.
def written_rows(parts):
    found = {}
    for part, rows in parts:
        found[(part, None)] = (len(found), ("part", part))
        for number, row in enumerate(rows):
            found[(part, number)] = (len(found), row)
    return found


def map_of_pack(rows, origins, lines):
    return tuple([map_of_row(row, lines[origin]) for row, origin in zip(rows, origins)])


# A do row has fewer words than a bring row that brings in names; those that
# it has are of the same number there.
def map_of_row(row, written):
    olds = word_starts(written[1])
    return tuple([(column, written[0], old) for column, old in zip(word_starts(row), olds)])


def word_starts(row):
    starts = []
    column = 0
    for word in words_of(row):
        starts.append(column)
        column += len(word) + 1
    return starts


def back(map_of_packs, pack, row, column):
    if not 0 <= pack < len(map_of_packs) or not 0 <= row < len(map_of_packs[pack]):
        raise NoPlace()
    ahead = [word for word in map_of_packs[pack][row] if word[0] <= column]
    if not ahead:
        raise NoPlace()
    return (ahead[-1][1], ahead[-1][2])
