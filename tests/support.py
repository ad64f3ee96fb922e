"""What several test files need."""

import itertools
import random
import unittest

from crossinglights.beats import Beats
from crossinglights.crossings import Crossing
from crossinglights.nets import Net
from crossinglights.rates import Rate

NAMES = ["a", "b", "c", "d", "e", "f"]


class Case(unittest.TestCase):
    """A test case that knows how to look at the errors of the package."""

    def assert_fails(self, error, attributes, call, *args):
        """The call raises exactly this class, with exactly these attributes in this order."""
        with self.assertRaises(error) as caught:
            call(*args)
        self.assertIs(type(caught.exception), error)
        self.assertEqual(list(vars(caught.exception).items()), list(attributes.items()))


def crossing_of(count, *rivals):
    """A crossing with so many streams."""
    return Crossing(NAMES[:count], list(rivals))


def ring_crossing(count, order=None):
    """A crossing whose rivals are the neighbours in a ring of its streams."""
    order = order or list(range(count))
    pairs = [(order[k], order[(k + 1) % count]) for k in range(count)]
    return crossing_of(count, *[(first, second, 1, 2) for first, second in pairs])


def full_crossing(count, seed):
    """A crossing in which every two streams are rivals."""
    rng = random.Random(seed)
    pairs = itertools.combinations(range(count), 2)
    return crossing_of(count, *[(a, b, rng.randint(0, 9), rng.randint(0, 9)) for a, b in pairs])


def random_crossing(rng, count, greatest=9):
    """A crossing in which about half of the pairs are rivals, in either order."""
    rivals = []
    for first, second in itertools.combinations(range(count), 2):
        if rng.random() < 0.5:
            pair = (first, second) if rng.random() < 0.5 else (second, first)
            rivals.append((*pair, rng.randint(0, greatest), rng.randint(0, greatest)))
    rng.shuffle(rivals)
    return crossing_of(count, *rivals)


def random_beats(rng, length):
    """A set of beats with any number of them."""
    return Beats(length, rng.sample(range(length), rng.randint(0, length)))


def all_beats(length):
    """All sets of beats of a short round."""
    for many in range(length + 1):
        for members in itertools.combinations(range(length), many):
            yield Beats(length, members)


def random_net(rng, length, nodes, ties, least=0, most=60):
    """A net with so many ties, each with least to most beats; without ties if there are no two nodes."""
    found = []
    for _ in range(ties if nodes > 1 else 0):
        first, second = rng.sample(range(nodes), 2)
        many = rng.randint(least, min(most, length))
        found.append((first, second, Beats(length, rng.sample(range(length), many))))
    return Net(length, nodes, found)


def all_settings(net):
    """All settings of a net, ascending."""
    return itertools.product(range(net.length), repeat=net.nodes)


def keeps(net, setting):
    """Return True if the setting keeps the net."""
    return all((setting[b] - setting[a]) % net.length in list(beats) for a, b, beats in net.ties)


def is_based(net, setting):
    """Return True if the setting gives 0 to the least node of each piece."""
    return all(setting[piece[0]] == 0 for piece in net.pieces())


ALL_RATES = [Rate(burst, num, den) for burst in (1, 2, 3) for den in range(1, 7) for num in range(1, den + 1)]


def is_let(rate, row):
    """The credit of point [31], step by step."""
    full = rate.burst * rate.den + rate.num - 1
    credit = full
    for came in row:
        if came and credit < rate.den:
            return False
        credit = min(full, credit - came * rate.den + rate.num)
    return True


def credit_after(rate, row):
    """The credit after a row that is let."""
    full = rate.burst * rate.den + rate.num - 1
    credit = full
    for came in row:
        credit = min(full, credit - came * rate.den + rate.num)
    return credit


def some_flows(seed, count, lengths=(1, 2, 3, 4, 5, 6)):
    """Rates with green beats, about half of which do not grow."""
    rng = random.Random(seed)
    for _ in range(count):
        length = rng.choice(lengths)
        yield rng.choice(ALL_RATES), Beats(length, rng.sample(range(length), rng.randint(0, length)))


def grows(rate, green):
    """Return True if more vehicles can come than leave in the long run."""
    return rate.num * green.length > len(list(green)) * rate.den


def simulated(green, begin, row, start=0):
    """Point [33] with a list of vehicles: the queue after each beat, and the vehicles that left."""
    queue = ["first"] * start
    told = []
    for place, came in enumerate(row):
        queue = queue + [place] * came
        left = 1 if queue and (begin + place) % green.length in list(green) else 0
        queue = queue[left:]
        told.append((len(queue), left))
    return told


def reached(starts, following):
    """All states that can be reached from the starts."""
    known = set(starts)
    pending = list(starts)
    while pending:
        for state in following(pending.pop()):
            if state not in known:
                known.add(state)
                pending.append(state)
    return known
