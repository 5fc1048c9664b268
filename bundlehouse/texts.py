"""Parts written as one text, and read from it."""

from bundlehouse.errors import NoRow
from bundlehouse.rows import read_row, shown_row


def shown(parts):
    lines = []
    for name, rows in parts:
        lines.append(shown_row(("part", name)))
        lines.extend([shown_row(row) for row in rows])
    return "\n".join(lines)


def read(text):
    # Split, the text without signs would be one row that writes none.
    if text == "":
        return ()
    parts = []
    for number, line in enumerate(text.split("\n")):
        row = read_line(line, number)
        if row[0] == "part":
            parts.append((row[1], []))
        elif row[0] == "do" or not parts:
            raise NoRow(number)
        else:
            parts[-1][1].append(row)
    return tuple([(name, tuple(rows)) for name, rows in parts])


def read_line(line, number):
    try:
        return read_row(line)
    except NoRow:
        raise NoRow(number) from None
