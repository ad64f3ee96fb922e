"""The rings of ties, in functions that change nothing they are passed, so that a property may use them."""


def steps_from(node, ties):
    """Return the pairs of each step that begins at the node and the node at which it ends."""
    found = []
    for number, tie in enumerate(ties):
        if tie[0] == node:
            found.append(((number, 1), tie[1]))
        if tie[1] == node:
            found.append(((number, -1), tie[0]))
    return found


def is_lesser_way(steps):
    """Return True if the way round is less than the way back, which begins along the last tie."""
    return steps[0][0] < steps[-1][0]


def rings_from(start, ties):
    """Return the rings of different ties of which this is the least node, the lesser way round of each."""
    found = []
    paths = [((start,), ())]
    while len(paths) > 0:
        longer = []
        for visited, steps in paths:
            for step, end in steps_from(visited[-1], ties):
                if end == start and is_lesser_way((*steps, step)):
                    found.append((*steps, step))
                if end > start and end not in visited:
                    longer.append(((*visited, end), (*steps, step)))
        paths = longer
    return found


def all_rings(nodes, ties):
    """Return each ring with at least two different ties once, by the number of steps, then ascending."""
    found = []
    for start in range(nodes):
        for ring in rings_from(start, ties):
            found.append((len(ring), ring))
    return [ring for _, ring in sorted(found)]
