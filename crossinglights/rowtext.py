"""Rows of comings as text."""

from crossinglights.errors import BadWord
from crossinglights.numerals import is_positive

DIGITS = "012"
MOST_COMINGS = 1000
MOST_GROUPS = 4


def run_word(comings, count):
    """Return the word for comings that come so many times one behind the other."""
    digits = "".join([str(coming) for coming in comings])
    return digits if count == 1 else f"{count}*{digits}"


def row_text(row):
    """Return the text of a row of comings."""
    runs = []
    for comings in row:
        if len(runs) > 0 and runs[-1][0] == comings:
            runs[-1] = (comings, runs[-1][1] + 1)
        else:
            runs.append((comings, 1))
    return " ".join([run_word(comings, count) for comings, count in runs])


def is_comings(word, width):
    """Return True if the word is the digits of comings of so many lanes."""
    return len(word) == width and all([digit in DIGITS for digit in word])


def room_in(groups):
    """Return how many comings can still be read; each group that has not been ended counts once."""
    return MOST_COMINGS - sum([len(row) for _, row in groups])


def end_group(groups):
    """End the group that was begun last; return False if there is none, or if it is too long."""
    if len(groups) == 1:
        return False
    count, row = groups.pop()
    if count * len(row) > room_in(groups):
        return False
    groups[-1][1].extend(row * count)
    return True


def read_word(groups, word, width):
    """Read a word into the groups that have not been ended; return False if it is wrong."""
    if word == ")":
        return end_group(groups)
    before, star, behind = word.partition("*")
    if star != "" and not is_positive(before):
        return False
    count, body = (1, word) if star == "" else (int(before), behind)
    if star != "" and body == "(":
        groups.append((count, []))
        return len(groups) <= MOST_GROUPS + 1
    if not is_comings(body, width) or count > room_in(groups):
        return False
    groups[-1][1].extend([tuple([int(digit) for digit in body])] * count)
    return True


def read_row(text, width):
    """Return the row of comings of so many lanes with this text."""
    words = [] if text == "" else text.split(" ")
    # Each group is a pair of how many times it comes and its row; the first one is the whole row.
    groups = [(1, [])]
    for place, word in enumerate(words):
        if not read_word(groups, word, width):
            raise BadWord(place)
    if len(groups) > 1:
        raise BadWord(len(words))
    return groups[0][1]
