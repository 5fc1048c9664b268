"""Maps coded as texts, one for each pack, and read back."""

from bundlehouse.errors import NoMap

SIGNS = "ABCDEFGHIJKLMNOPQRSTUVWXYZabcdefghijklmnopqrstuvwxyz0123456789+/"
BASE = 32
# As many signs as the code of a number of sixty figures has at most.
MOST_SIGNS = 41


def coded(map_of_packs):
    return tuple([coded_pack(rows) for rows in map_of_packs])


def coded_pack(rows):
    line = 0
    old = 0
    texts = []
    for row in rows:
        column = 0
        words = []
        for word in row:
            words.append(coded_number(word[0] - column) + coded_number(word[1] - line) + coded_number(word[2] - old))
            column = word[0]
            line = word[1]
            old = word[2]
        texts.append(",".join(words))
    return ";".join(texts)


def coded_number(number):
    left = 2 * number if number >= 0 else -2 * number - 1
    text = ""
    while left >= BASE:
        text += SIGNS[BASE + left % BASE]
        left //= BASE
    return text + SIGNS[left]


def decoded(texts):
    return tuple([read_pack(text) for text in texts])


def read_pack(text):
    ahead = (0, 0, 0)
    rows = []
    for row_text in text.split(";"):
        row = read_words(row_text, ahead)
        ahead = row[-1]
        rows.append(row)
    return tuple(rows)


def read_words(text, ahead):
    column = 0
    line = ahead[1]
    old = ahead[2]
    words = []
    for word in text.split(","):
        numbers = read_numbers(word)
        if words and numbers[0] <= 0:
            raise NoMap()
        column += numbers[0]
        line += numbers[1]
        old += numbers[2]
        words.append((bounded(column), bounded(line), bounded(old)))
    return tuple(words)


def bounded(number):
    if not 0 <= number < 10 ** 60:
        raise NoMap()
    return number


def read_numbers(word):
    numbers = []
    figures = []
    for sign in word:
        place = SIGNS.find(sign)
        if place < 0:
            raise NoMap()
        figures.append(place % BASE)
        if place < BASE:
            numbers.append(read_figures(figures))
            figures = []
    if figures or len(numbers) != 3:
        raise NoMap()
    return numbers


def read_figures(figures):
    if len(figures) > MOST_SIGNS or (len(figures) > 1 and figures[-1] == 0):
        raise NoMap()
    whole = 0
    for figure in reversed(figures):
        whole = whole * BASE + figure
    if whole % 2 == 0:
        return whole // 2
    return -(whole + 1) // 2
