"""Words of a text."""

from neverbrush.errors import BadText

LETTERS = "abcdefghijklmnopqrstuvwxyz0123456789-"
FIGURES = "0123456789"
MOST_FIGURES = 12


def words(text):
    """The list of the pairs (word, line) of text; BadText(line) for a sign that may not stand there."""
    found = []
    lines = text.split("\n")
    for line in range(len(lines)):
        for word in words_of_line(lines[line], line):
            found.append((word, line))
    return found


def words_of_line(row, line):
    """The words of the row with this number; a remark goes up to the end of the row."""
    parts = row.split("#")[0].split(" ")
    found = [part for part in parts if part]
    if any([sign not in LETTERS for part in found for sign in part]):
        raise BadText(line)
    return found


def text_of(words):
    """The text with each of words in its line."""
    if not words:
        return ""
    lines = [[] for _ in range(words[-1][1] + 1)]
    for word, line in words:
        lines[line].append(word)
    return "".join([" ".join(own) + "\n" for own in lines])


def number_of(word):
    """The number of a number word, None for another string."""
    figures = word[1:] if word.startswith("-") else word
    if not figures or len(figures) > MOST_FIGURES or any([sign not in FIGURES for sign in figures]):
        return None
    if figures.startswith("0") and word != "0":
        return None
    return int(word)


def word_of(number):
    """The number word of number."""
    return str(number)
