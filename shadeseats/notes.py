"""A floor, a sun and folk, written as rows of words and read again."""

from shadeseats.checks import check_scene
from shadeseats.errors import BadText

# How many words a row has by its first one, and how many of the others, from the second on, are numbers.
WORDS = {"floor": 3, "post": 4, "awning": 3, "sun": 2, "folk": 4}
NUMBERS = {"floor": 2, "post": 3, "awning": 2, "sun": 0, "folk": 2}
# Which rows may stand behind one; the empty word is for the first row, which has none ahead.
FOLLOWERS = {
    "": ("floor",),
    "floor": ("post", "awning", "sun"),
    "post": ("post", "awning", "sun"),
    "awning": ("awning", "sun"),
    "sun": ("folk",),
    "folk": ("folk",),
}
FIGURES = "0123456789"


def row_of(word, things):
    return " ".join([word] + [str(thing) for thing in things])


def written(floor, sun, folk):
    """The text of a floor, a sun and folk."""
    check_scene(floor, sun, folk)
    rows = [row_of("floor", floor[:2])]
    rows.extend([row_of("post", post) for post in floor[2]])
    rows.extend([row_of("awning", cell) for cell in floor[3]])
    rows.append(row_of("sun", [sun]))
    rows.extend([row_of("folk", cell + (rule,)) for cell, rule in folk])
    return "\n".join(rows)


def number_words(words):
    """The words of a row that are to be numbers."""
    return words[1:1 + NUMBERS[words[0]]]


def is_row(words):
    """Whether words are a row by the first one, by how many they are, and by their numbers."""
    if words[0] not in WORDS or len(words) != WORDS[words[0]] or "" in words:
        return False
    return all([len(word) == 1 and word in FIGURES for word in number_words(words)])


def check_rows(rows):
    ahead = ""
    for number, words in enumerate(rows):
        if not is_row(words) or words[0] not in FOLLOWERS[ahead]:
            raise BadText(number)
        ahead = words[0]
    if ahead not in ("sun", "folk"):
        raise BadText(len(rows))


def numbers_of(words):
    return tuple([int(word) for word in number_words(words)])


def rows_by(word, rows):
    """The rows that begin with a word, in their order."""
    return [words for words in rows if words[0] == word]


def read(text):
    """The floor, the sun and the folk of a text."""
    if not isinstance(text, str):
        raise BadText(0)
    rows = [row.split(" ") for row in text.split("\n")]
    check_rows(rows)
    posts = tuple([numbers_of(words) for words in rows_by("post", rows)])
    hung = tuple([numbers_of(words) for words in rows_by("awning", rows)])
    floor = numbers_of(rows[0]) + (posts, hung)
    sun = rows_by("sun", rows)[0][1]
    folk = tuple([(numbers_of(words), words[3]) for words in rows_by("folk", rows)])
    check_scene(floor, sun, folk)
    return floor, sun, folk
