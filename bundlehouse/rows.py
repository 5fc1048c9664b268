"""Rows: how they are written and read, and which names they read."""

from bundlehouse.errors import NoRow

LETTERS = "abcdefghijklmnopqrstuvwxyz"
FIGURES = "0123456789"
MOST_SIGNS = 8
MOST_FIGURES = 60
MOST_TERMS = 6
MOST_PAIRS = 6


def shown_row(row):
    return " ".join(words_of(row))


# Bounds are not looked at here: rows with new names of more than eight signs
# are written, too.
def words_of(row):
    kind = row[0]
    if kind == "bring":
        return ("bring", row[1]) + pair_words(row[2])
    if kind == "give":
        return ("give", row[1], "as", row[2])
    if kind == "set":
        return ("set", row[1], "=") + sum_words(row[2])
    if kind == "say":
        return ("say",) + sum_words(row[1]) + when_words(row[2])
    if kind == "need":
        return ("need",) + sum_words(row[1])
    if kind == "ask":
        return ("ask", row[1]) + when_words(row[2])
    return (kind, row[1])


def pair_words(pairs):
    words = []
    for given, own in pairs:
        words.extend([given, "as", own])
    return tuple(words)


def sum_words(terms):
    words = []
    for sign, thing in terms:
        if words:
            words.append("+" if sign == 1 else "-")
        words.append(str(thing))
    return tuple(words)


def when_words(when):
    if when is None:
        return ()
    return ("when", when)


def read_names(row):
    kind = row[0]
    if kind == "set":
        return sum_names(row[2], 3)
    if kind == "need":
        return sum_names(row[1], 1)
    if kind == "say":
        return when_names(row) + sum_names(row[1], 1)
    if kind == "ask":
        return when_names(row)
    return ()


def sum_names(terms, first):
    names = []
    for place, term in enumerate(terms):
        if isinstance(term[1], str):
            names.append((first + 2 * place, term[1]))
    return tuple(names)


def when_names(row):
    if row[2] is None:
        return ()
    return ((len(words_of(row)) - 1, row[2]),)


def read_row(text):
    words = text.split(" ")
    kind = words[0]
    rest = words[1:]
    if kind == "bring":
        return read_bring(rest)
    if kind == "give":
        return ("give",) + read_pair(rest)
    if kind == "set":
        return read_set(rest)
    if kind == "say":
        return read_say(rest)
    if kind == "need":
        return ("need", read_sum(rest))
    if kind == "ask":
        return read_ask(rest)
    if kind in ("take", "part", "do"):
        return (kind, read_only_name(rest))
    raise NoRow(0)


def read_bring(words):
    if len(words) % 3 != 1 or len(words) > 1 + 3 * MOST_PAIRS:
        raise NoRow(0)
    pairs = [read_pair(words[k:k + 3]) for k in range(1, len(words), 3)]
    return ("bring", read_name(words[0]), tuple(pairs))


def read_pair(words):
    if len(words) != 3 or words[1] != "as":
        raise NoRow(0)
    return (read_name(words[0]), read_name(words[2]))


def read_set(words):
    if len(words) < 3 or words[1] != "=":
        raise NoRow(0)
    return ("set", read_name(words[0]), read_sum(words[2:]))


def read_say(words):
    if has_when(words):
        return ("say", read_sum(words[:-2]), read_name(words[-1]))
    return ("say", read_sum(words), None)


def read_ask(words):
    if has_when(words):
        return ("ask", read_only_name(words[:-2]), read_name(words[-1]))
    return ("ask", read_only_name(words), None)


# The word when may be a name, too; but in a row that ends without a when, the
# last word but one is a sum's sign or the row's first word, so never a name.
def has_when(words):
    return len(words) > 2 and words[-2] == "when"


def read_sum(words):
    if len(words) % 2 != 1 or len(words) > 2 * MOST_TERMS - 1:
        raise NoRow(0)
    terms = [(1, read_thing(words[0]))]
    for k in range(1, len(words), 2):
        terms.append((read_sign(words[k]), read_thing(words[k + 1])))
    return tuple(terms)


def read_sign(word):
    if word == "+":
        return 1
    if word == "-":
        return -1
    raise NoRow(0)


def read_thing(word):
    if is_number(word):
        return int(word)
    return read_name(word)


def read_only_name(words):
    if len(words) != 1:
        raise NoRow(0)
    return read_name(words[0])


def read_name(word):
    if not is_name(word):
        raise NoRow(0)
    return word


def is_name(word):
    if not 1 <= len(word) <= MOST_SIGNS or word[0] not in LETTERS:
        return False
    return all([sign in LETTERS or sign in FIGURES for sign in word])


def is_number(word):
    if not 1 <= len(word) <= MOST_FIGURES or (word[0] == "0" and word != "0"):
        return False
    return all([sign in FIGURES for sign in word])
