"""One queue at the end of which vehicles come, and which lets one vehicle go in each green beat."""

from crossinglights.errors import BadNumber, BadRow


def queue_after(green, beat, queue):
    """Return the number that is left of so many vehicles after a beat, and 1 if one left, otherwise 0."""
    left = 1 if queue > 0 and beat in green else 0
    return (queue - left, left)


def run_queue(green, begin, row, start=0):
    """Return the pair of the number in the queue and the number that left, for each beat of the row."""
    if start < 0:
        raise BadNumber(start)
    for place, came in enumerate(row):
        if came < 0:
            raise BadRow(place)
    found = []
    queue = start
    for place, came in enumerate(row):
        queue, left = queue_after(green, begin + place, queue + came)
        found.append((queue, left))
    return found
