"""Names of streams and marks."""

LETTERS = "abcdefghijklmnopqrstuvwxyz"
MOST_LETTERS = 8


def is_name(text):
    """Return True if the string is a name."""
    return 1 <= len(text) <= MOST_LETTERS and all([letter in LETTERS for letter in text])
