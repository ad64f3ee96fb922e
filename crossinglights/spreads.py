"""What all settings that keep a net have in common."""

from crossinglights.beats import Beats
from crossinglights.errors import UnknownNode
from crossinglights.netrings import broken
from crossinglights.settings import based_settings


def kept_settings(net):
    """Return the list of the settings that keep the net, with 0 at the least node of each piece."""
    return [setting for setting in based_settings(net) if len(broken(net, setting)) == 0]


def spread(net, first, second):
    """Return the set of the differences between two nodes in all settings that keep the net."""
    for node in (first, second):
        if not 0 <= node < net.nodes:
            raise UnknownNode(node)
    kept = kept_settings(net)
    if len(kept) == 0:
        return Beats.none(net.length)
    if not any([first in piece and second in piece for piece in net.pieces()]):
        # A whole piece can be turned by itself, so every difference between two pieces occurs.
        return Beats.every(net.length)
    return Beats(net.length, [setting[second] - setting[first] for setting in kept])


def count_settings(net):
    """Return the number of settings that keep the net, with 0 at the least node of each piece."""
    return len(kept_settings(net))


def needless(net):
    """Return the ascending list of the ties that no setting breaks alone."""
    # Turning a piece changes no difference along a tie, so the settings with 0 at the least nodes are enough.
    alone = [broken(net, setting) for setting in based_settings(net)]
    return [number for number in range(len(net.ties)) if [number] not in alone]
