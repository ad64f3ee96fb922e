"""Numbers as they are written in texts."""

MOST_DIGITS = 3


def is_number(word):
    """Return True if the word is 0, or one to three digits of which the first is not 0."""
    return word == "0" or is_positive(word)


def is_positive(word):
    """Return True if the word is one to three digits of which the first is not 0."""
    return 1 <= len(word) <= MOST_DIGITS and word.isdigit() and word[0] != "0"
