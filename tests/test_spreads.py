"""What settings have in common: point [28], and the facts of point [29]."""

import random

from crossinglights.beats import Beats
from crossinglights.errors import TooMany, UnknownNode
from crossinglights.netrings import rings
from crossinglights.nets import Net
from crossinglights.settling import Cases, Setting, settle
from crossinglights.spreads import count_settings, needless, spread
from tests.support import Case, all_settings, is_based, keeps, random_net


def random_nets(seed, count, lengths=(1, 2, 3, 4), nodes=4, ties=5):
    """Nets with several pieces, ties without beats, and several ties between the same nodes."""
    rng = random.Random(seed)
    for _ in range(count):
        least = rng.choice((0, 1, 1))
        yield random_net(rng, rng.choice(lengths), rng.randint(0, nodes), rng.randint(0, ties), least)


class SpreadTest(Case):
    """Point [28]."""

    def test_spread(self):
        for net in random_nets(1, 150):
            good = [setting for setting in all_settings(net) if keeps(net, setting)]
            for first in range(net.nodes):
                for second in range(net.nodes):
                    wanted = Beats(net.length, [setting[second] - setting[first] for setting in good])
                    self.assertEqual(spread(net, first, second), wanted)

    def test_edges_of_spread(self):
        self.assertEqual(spread(Net(60, 6, []), 5, 5), Beats(60, [0]))
        self.assertEqual(spread(Net(60, 6, []), 5, 4), Beats.every(60))
        empty = Net(60, 3, [(0, 1, Beats(60, []))])
        self.assertEqual([len(spread(empty, *pair)) for pair in ((0, 1), (2, 2), (1, 2))], [0, 0, 0])

    def test_unknown_nodes(self):
        wide = Net(60, 4, [(0, node, Beats.every(60)) for node in range(1, 4)])
        for net, many in ((Net(5, 2, []), 2), (wide, 4), (Net(5, 0, []), 0)):
            for node in (-1, many, 10 ** 9):
                self.assert_fails(UnknownNode, {"number": node}, spread, net, node, many + 3)
                if many:
                    self.assert_fails(UnknownNode, {"number": node}, spread, net, 0, node)

    def test_count_settings(self):
        for net in random_nets(2, 150):
            wanted = sum(keeps(net, setting) and is_based(net, setting) for setting in all_settings(net))
            self.assertEqual(count_settings(net), wanted)
        self.assertEqual(count_settings(Net(5, 0, [])), 1)
        self.assertEqual(count_settings(Net(60, 6, [])), 1)
        self.assertEqual(count_settings(Net(17, 4, [(0, k, Beats.every(17)) for k in (1, 2, 3)])), 4913)

    def test_needless(self):
        found = 0
        for net in random_nets(3, 200):
            wanted = []
            for number, tie in enumerate(net.ties):
                rest, alone = net.without(number), Net(net.length, net.nodes, [tie])
                if all(keeps(alone, setting) for setting in all_settings(net) if keeps(rest, setting)):
                    wanted.append(number)
            self.assertEqual(needless(net), wanted)
            found += len(wanted)
        self.assertGreater(found, 50)

    def test_edges_of_needless(self):
        every, none, one = Beats.every(5), Beats.none(5), Beats(5, [1])
        self.assertEqual(needless(Net(5, 2, [])), [])
        self.assertEqual(needless(Net(5, 3, [(0, 1, every), (1, 2, one)])), [0])
        self.assertEqual(needless(Net(5, 3, [(0, 1, none), (1, 2, one)])), [1])
        self.assertEqual(needless(Net(5, 3, [(0, 1, none), (1, 2, one), (2, 1, none)])), [0, 1, 2])
        self.assertEqual(needless(Net(5, 2, [(0, 1, one), (0, 1, one)])), [0, 1])

    def test_too_many(self):
        for length, nodes, count in ((18, 4, 5832), (6, 6, 7776), (60, 4, 216000)):
            net = Net(length, nodes, [(0, node, Beats(length, [])) for node in range(1, nodes)])
            for call, more in ((spread, (0, 1)), (count_settings, ()), (needless, ())):
                self.assert_fails(TooMany, {"number": count}, call, net, *more)


def other_way(net, number, ring):
    """The sum along the other steps of a ring, from the first node of the tie to its second one."""
    total = Beats(net.length, [0])
    for other, way in ring:
        if other != number:
            total = total + (net.ties[other][2] if way == 1 else -net.ties[other][2])
    return -total if dict(ring)[number] == 1 else total


def plain_nets(seed, count, lengths=(2, 3, 4, 5)):
    """Random nets that are plain and in which no tie is empty."""
    rng = random.Random(seed)
    while count > 0:
        net = random_net(rng, rng.choice(lengths), rng.randint(2, 5), rng.randint(1, 6), 1)
        if net.plain:
            count -= 1
            yield net


class FactsTest(Case):
    """Point [29]."""

    def test_no_cases_for_plain_nets(self):
        for net in plain_nets(1, 150):
            self.assertNotIsInstance(settle(net), Cases)
        for net in random_nets(4, 200):
            if isinstance(settle(net), Cases):
                self.assertFalse(net.plain)

    def test_nets_without_rings(self):
        found = 0
        for net in plain_nets(2, 150):
            if not list(rings(net)):
                found += 1
                product = 1
                for first, second, beats in net.ties:
                    product *= len(beats)
                    self.assertEqual(spread(net, first, second), beats)
                self.assertEqual(count_settings(net), product)
        self.assertGreater(found, 30)

    def test_spread_along_a_path(self):
        a, b, c = Beats(7, [1, 2]), Beats(7, [0, 3]), Beats(7, [5])
        net = Net(7, 5, [(2, 0, a), (2, 4, b), (1, 4, c)])
        self.assertEqual(spread(net, 0, 1), -a + b - c)
        self.assertEqual(spread(net, 1, 0), c - b + a)
        self.assertEqual(count_settings(net), 4)

    def test_spreads_of_ties_of_plain_nets(self):
        found = 0
        for net in plain_nets(3, 150):
            if isinstance(settle(net), Setting):
                for number, (first, second, beats) in enumerate(net.ties):
                    wanted = beats
                    for ring in rings(net):
                        if number in dict(ring):
                            found += 1
                            wanted = beats & other_way(net, number, ring)
                    self.assertEqual(spread(net, first, second), wanted)
        self.assertGreater(found, 50)

    def test_prime_lengths(self):
        found = 0
        for net in plain_nets(4, 300, (2, 3, 5)):
            counts = [(sum(len(net.ties[number][2]) for number, _ in ring), len(ring)) for ring in rings(net)]
            if counts and all(many >= net.length + steps - 1 for many, steps in counts):
                found += 1
                self.assertIsInstance(settle(net), Setting)
        self.assertGreater(found, 20)
