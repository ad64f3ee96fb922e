"""The settings of a net that give 0 to the least node of each piece."""

from crossinglights.errors import TooMany
from crossinglights.listings import products

MOST_SETTINGS = 5000


def least_nodes(net):
    """Return the list of the least node of each piece."""
    return [piece[0] for piece in net.pieces()]


def based_settings(net):
    """Return all settings with 0 at the least node of each piece, ascending; raise TooMany if they are too many."""
    least = least_nodes(net)
    count = 1
    for _ in range(net.nodes - len(least)):
        count = count * net.length
    if count > MOST_SETTINGS:
        raise TooMany(count)
    return products([[0] if node in least else list(range(net.length)) for node in range(net.nodes)])


def based(net, setting):
    """Return the list of the beats after those of the least node have been subtracted in each piece."""
    beats = list(setting)
    for piece in net.pieces():
        for node in piece:
            beats[node] = (setting[node] - setting[piece[0]]) % net.length
    return beats
