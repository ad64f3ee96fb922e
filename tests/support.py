"""What several test files need."""

import itertools
import random
import unittest

from crossinglights.beats import Beats
from crossinglights.crossings import Crossing
from crossinglights.nets import Net

NAMES = ["a", "b", "c", "d", "e", "f"]


class Case(unittest.TestCase):
    """A test case that knows how to look at the errors of the package."""

    def assert_fails(self, error, attributes, call, *args):
        """The call raises exactly this class, with exactly these attributes in this order."""
        with self.assertRaises(error) as caught:
            call(*args)
        self.assertIs(type(caught.exception), error)
        self.assertEqual(list(vars(caught.exception).items()), list(attributes.items()))


def crossing_of(count, *rivals):
    """A crossing with so many streams."""
    return Crossing(NAMES[:count], list(rivals))


def ring_crossing(count, order=None):
    """A crossing whose rivals are the neighbours in a ring of its streams."""
    order = order or list(range(count))
    pairs = [(order[k], order[(k + 1) % count]) for k in range(count)]
    return crossing_of(count, *[(first, second, 1, 2) for first, second in pairs])


def full_crossing(count, seed):
    """A crossing in which every two streams are rivals."""
    rng = random.Random(seed)
    pairs = itertools.combinations(range(count), 2)
    return crossing_of(count, *[(a, b, rng.randint(0, 9), rng.randint(0, 9)) for a, b in pairs])


def random_crossing(rng, count, greatest=9):
    """A crossing in which about half of the pairs are rivals, in either order."""
    rivals = []
    for first, second in itertools.combinations(range(count), 2):
        if rng.random() < 0.5:
            pair = (first, second) if rng.random() < 0.5 else (second, first)
            rivals.append((*pair, rng.randint(0, greatest), rng.randint(0, greatest)))
    rng.shuffle(rivals)
    return crossing_of(count, *rivals)


def random_beats(rng, length):
    """A set of beats with any number of them."""
    return Beats(length, rng.sample(range(length), rng.randint(0, length)))


def all_beats(length):
    """All sets of beats of a short round."""
    for many in range(length + 1):
        for members in itertools.combinations(range(length), many):
            yield Beats(length, members)


def random_net(rng, length, nodes, ties, least=0, most=60):
    """A net with so many ties, each with least to most beats; without ties if there are no two nodes."""
    found = []
    for _ in range(ties if nodes > 1 else 0):
        first, second = rng.sample(range(nodes), 2)
        many = rng.randint(least, min(most, length))
        found.append((first, second, Beats(length, rng.sample(range(length), many))))
    return Net(length, nodes, found)


def all_settings(net):
    """All settings of a net, ascending."""
    return itertools.product(range(net.length), repeat=net.nodes)


def keeps(net, setting):
    """Return True if the setting keeps the net."""
    return all((setting[b] - setting[a]) % net.length in list(beats) for a, b, beats in net.ties)


def is_based(net, setting):
    """Return True if the setting gives 0 to the least node of each piece."""
    return all(setting[piece[0]] == 0 for piece in net.pieces())
