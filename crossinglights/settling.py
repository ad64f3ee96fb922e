"""Settling a net: a setting that keeps it, or a ring or a tree of cases which shows that none does."""

from crossinglights.netrings import broken, check_setting, misses
from crossinglights.ringlists import all_rings
from crossinglights.settings import based, based_settings, least_nodes


class Settling:
    """What is known about the settings of a net."""

    def __init__(self, net):
        self.net = net

    def told(self):
        """Return the number of the nodes in words."""
        return f"net of {self.net.nodes} nodes:"


class Miss(Settling):
    """A ring that misses."""

    def __init__(self, net, ring):
        Settling.__init__(self, net)
        self.ring = ring

    def told(self):
        """Return the number of the nodes and the ring in words."""
        steps = [f" {number}+" if direction == 1 else f" {number}-" for number, direction in self.ring]
        return super().told() + " ring" + "".join(steps)


class Setting(Settling):
    """The least setting that keeps the net."""

    def __init__(self, net, beats):
        Settling.__init__(self, net)
        self.beats = beats

    def told(self):
        """Return the number of the nodes and the setting in words."""
        return super().told() + " setting" + "".join([f" {beat}" for beat in self.beats])


class Cases(Settling):
    """A tree of cases, each of which breaks a tie."""

    def __init__(self, net, tree):
        Settling.__init__(self, net)
        self.tree = tree
        self._leaves = leaves_of(tree)

    def __len__(self):
        return len(self._leaves)

    def leaf(self, setting):
        """Return the number of a tie that the setting breaks, the one at its leaf."""
        check_setting(self.net, setting)
        beats = based(self.net, setting)
        tree = self.tree
        while tree[0] == "node":
            tree = tree[2][beats[tree[1]]]
        return tree[1]

    def told(self):
        """Return the number of the nodes and of the leaves in words."""
        return super().told() + f" cases with {len(self)} leaves"


def leaves_of(tree):
    """Return the list of the ties at the leaves of a tree of cases."""
    if tree[0] == "tie":
        return [tree[1]]
    return [number for branch in tree[2] for number in leaves_of(branch)]


def broken_already(net, beats):
    """Return the first tie whose two nodes have beats and which they do not keep, or None."""
    for number, (first, second, allowed) in enumerate(net.ties):
        if beats[first] is not None and beats[second] is not None:
            if beats[second] - beats[first] not in allowed:
                return number
    return None


def tree_of(net, beats):
    """Return the tree of cases below these beats, None for the nodes without one; no setting may keep the net."""
    number = broken_already(net, beats)
    if number is not None:
        return ("tie", number)
    node = beats.index(None)
    trees = [tree_of(net, [*beats[:node], beat, *beats[node + 1:]]) for beat in range(net.length)]
    return ("node", node, tuple(trees))


def missing_ring(net):
    """Return a ring that misses, or None."""
    backs = [((number, 1), (number, -1)) for number in range(len(net.ties))]
    for ring in [*backs, *all_rings(net.nodes, net.ties)]:
        if misses(net, ring):
            return ring
    return None


def settle(net):
    """Return a Miss, a Setting or Cases for a net."""
    settings = based_settings(net)
    ring = missing_ring(net)
    if ring is not None:
        return Miss(net, ring)
    for setting in settings:
        if len(broken(net, setting)) == 0:
            return Setting(net, setting)
    least = least_nodes(net)
    return Cases(net, tree_of(net, [0 if node in least else None for node in range(net.nodes)]))
