"""Lists of all choices from a few items."""


def choices(items):
    """Return all parts of the items as tuples, each in the order of the items, the empty one first."""
    found = [()]
    for item in items:
        found = found + [part + (item,) for part in found]
    return found


def arrangements(items, many):
    """Return all tuples of so many of the items, no place used twice; ascending if the items are."""
    if many == 0:
        return [()]
    found = []
    for place, item in enumerate(items):
        others = items[:place] + items[place + 1:]
        for tail in arrangements(others, many - 1):
            found.append((item,) + tail)
    return found


def products(rows):
    """Return all tuples with one entry of each row; ascending if the rows are."""
    found = [()]
    for row in rows:
        found = [(*chosen, entry) for chosen in found for entry in row]
    return found
