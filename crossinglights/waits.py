"""The longest wait of a vehicle in a queue."""

from crossinglights.flows import check_round, greedy_run, grows, row_of


def wait_of(green, beat, queue):
    """Return the number of beats after this one until so many vehicles have left."""
    beats = 0
    while queue > 0:
        beats = beats + 1
        if beat + beats in green:
            queue = queue - 1
    return beats


def longest_wait(rate, green):
    """Return the greatest number of beats that a vehicle waits, and a begin and a row that ends with such a one."""
    check_round(green)
    if grows(rate, green):
        return None
    # Before a vehicle that comes as early as it can, as many vehicles leave, so it waits no less.
    best = (-1, 0, [])
    for begin in range(green.length):
        run = greedy_run(rate, green, begin)
        for place, (came, queue) in enumerate(run):
            beats = wait_of(green, begin + place, queue) if came == 1 else -1
            if beats > best[0]:
                best = (beats, begin, row_of(run, place + 1))
    return best
