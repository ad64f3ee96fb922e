"""What is wrong with numbers and lists that were passed."""

from crossinglights.errors import BadNumber


def check_number(number, low, high):
    """Raise BadNumber unless the number is from low to high."""
    if not low <= number <= high:
        raise BadNumber(number)


def first_wrong(entries, count, low, high):
    """Return the least place with an entry not from low to high, or beyond one of entries and count, or None."""
    for place, entry in enumerate(entries):
        if place >= count or not low <= entry <= high:
            return place
    return None if len(entries) == count else len(entries)


def first_strange(entries, count):
    """Return the least place with an entry that is not from 0 to count - 1 or is an earlier entry, or None."""
    for place, entry in enumerate(entries):
        if not 0 <= entry < count or entry in entries[:place]:
            return place
    return None
