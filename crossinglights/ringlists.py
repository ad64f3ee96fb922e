"""The rings of ties, in functions that change nothing they are passed, so that a property may use them."""


def steps_from(node, ties):
    """Return the pairs of each step that begins at the node and the node at which it ends."""
    found = []
    for number, tie in enumerate(ties):
        if tie[0] == node:
            found.append(((number, 1), tie[1]))
        if tie[1] == node:
            found.append(((number, -1), tie[0]))
    return found


def is_lesser_way(steps):
    """Return True if the way round is less than the way back, which begins along the last tie."""
    return steps[0][0] < steps[-1][0]


def longer_paths(paths, ties):
    """Return all paths of one step more, as triples of the nodes before, the steps, and the node at the end."""
    return [((*visited, node), (*steps, step), end)
            for visited, steps, node in paths for step, end in steps_from(node, ties)]


def rings_from(start, ties):
    """Return the rings of different ties of which this is the least node, the lesser way round of each."""
    found = []
    paths = [((), (), start)]
    while len(paths) > 0:
        grown = longer_paths(paths, ties)
        found = found + [steps for _, steps, end in grown if end == start and is_lesser_way(steps)]
        paths = [path for path in grown if path[2] > start and path[2] not in path[0]]
    return found


def all_rings(nodes, ties):
    """Return each ring with at least two different ties once, by the number of steps, then ascending."""
    found = []
    for start in range(nodes):
        for ring in rings_from(start, ties):
            found.append((len(ring), ring))
    return [ring for _, ring in sorted(found)]
