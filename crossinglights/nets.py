"""Nets: nodes, and ties that allow some differences of their beats."""

from crossinglights.beats import is_length
from crossinglights.errors import BadNet, UnknownTie
from crossinglights.ringlists import all_rings

MOST_NODES = 6
MOST_TIES = 15


def is_tie(tie, length, nodes):
    """Return True if the tuple is a tie of a net of this length with so many nodes."""
    if len(tie) != 3:
        return False
    first, second, beats = tie
    known = 0 <= first < nodes and 0 <= second < nodes and first != second
    return known and beats.length == length


def piece_of(node, ties):
    """Return the ascending list of the nodes to which ties lead from this one."""
    reached = [node]
    grown = True
    while grown:
        grown = False
        for first, second, _ in ties:
            if (first in reached) != (second in reached):
                reached.append(second if first in reached else first)
                grown = True
    return sorted(reached)


class Net:
    """A round, nodes, and ties between nodes."""

    def __init__(self, length, nodes, ties):
        if not is_length(length):
            raise BadNet("length", 0)
        if not 0 <= nodes <= MOST_NODES:
            raise BadNet("nodes", 0)
        if len(ties) > MOST_TIES:
            raise BadNet("ties", 0)
        for place, tie in enumerate(ties):
            if not is_tie(tie, length, nodes):
                raise BadNet("tie", place)
        self.length = length
        self.nodes = nodes
        self.ties = tuple([tuple(tie) for tie in ties])

    def __eq__(self, other):
        return (isinstance(other, Net) and self.length == other.length and self.nodes == other.nodes
                and self.ties == other.ties)

    @property
    def plain(self):
        """True if no tie stands in two rings of different ties."""
        used = [step[0] for ring in all_rings(self.nodes, self.ties) for step in ring]
        return len(used) == len(set(used))

    def plus(self, *ties):
        """Return the net with these ties behind the others."""
        return Net(self.length, self.nodes, [*self.ties, *ties])

    def without(self, *numbers):
        """Return the net without the ties with these numbers."""
        for number in numbers:
            if not 0 <= number < len(self.ties):
                raise UnknownTie(number)
        kept = [tie for place, tie in enumerate(self.ties) if place not in numbers]
        return Net(self.length, self.nodes, kept)

    def pieces(self):
        """Return the ascending list of the pieces, each one an ascending list of nodes."""
        found = []
        for node in range(self.nodes):
            if not any([node in piece for piece in found]):
                found.append(piece_of(node, self.ties))
        return found
