"""Settling nets: points [26] and [27]."""

import random

from crossinglights.beats import Beats
from crossinglights.errors import BadSetting, TooMany
from crossinglights.netrings import broken, is_ring, misses, ring_sum, rings
from crossinglights.nets import Net
from crossinglights.settling import Cases, Miss, Setting, Settling, settle
from tests.support import Case, all_settings, is_based, keeps, random_net


def three_ties(length=3):
    """Three ties between two nodes: any two can be kept, not all of them."""
    return Net(length, 2, [(0, 1, Beats(length, [0, 1])), (0, 1, Beats(length, [1, 2])), (1, 0, Beats(length, [0, -2]))])


def random_nets(seed, count):
    """Nets with several pieces and ties without beats, and nets with many ties between few nodes."""
    rng = random.Random(seed)
    for _ in range(count):
        length = rng.randint(2, 5)
        if rng.random() < 0.5:
            yield random_net(rng, length, rng.randint(0, 4), rng.randint(0, 6))
        else:
            yield random_net(rng, 4, rng.randint(2, 4), rng.randint(4, 7), 2, 3)


def leaves(net, tree, beats):
    """Check a tree of cases below these beats, and return the number of its leaves."""
    if tree[0] == "tie":
        first, second, allowed = net.ties[tree[1]]
        assert beats[second] - beats[first] not in allowed
        return 1
    word, node, trees = tree
    assert word == "node" and node not in beats and node in range(net.nodes)
    assert isinstance(trees, tuple) and len(trees) == net.length
    return sum(leaves(net, branch, {**beats, node: beat}) for beat, branch in enumerate(trees))


class SettleTest(Case):
    """Point [26]."""

    def test_kinds(self):
        kinds = {Miss: 0, Setting: 0, Cases: 0}
        for net in random_nets(1, 400):
            found = settle(net)
            kinds[type(found)] += 1
            self.assertIs(found.net, net)
            self.assertIsInstance(found, Settling)
            good = [setting for setting in all_settings(net) if keeps(net, setting) and is_based(net, setting)]
            empty = any(not beats for _, _, beats in net.ties)
            missing = empty or any(0 not in ring_sum(net, ring) for ring in rings(net))
            self.assertIs(isinstance(found, Miss), missing)
            self.assertIs(isinstance(found, Setting), bool(good))
            if good:
                self.assertEqual(found.beats, min(good))
            if missing:
                self.assertIsInstance(found.ring, tuple)
                self.assertTrue(is_ring(net, found.ring) and misses(net, found.ring))
        self.assertTrue(all(kinds[kind] > 10 for kind in kinds), kinds)

    def test_bases(self):
        self.assertEqual(Settling.__bases__, (object,))
        for kind in (Miss, Setting, Cases):
            self.assertEqual(kind.__bases__, (Settling,))
            self.assertIn("told", vars(kind))

    def test_edges(self):
        self.assertEqual(settle(Net(1, 0, [])).beats, ())
        self.assertEqual(settle(Net(60, 6, [])).beats, (0,) * 6)
        self.assertEqual(settle(Net(1, 2, [(1, 0, Beats(1, [0]))])).beats, (0, 0))
        self.assertIn(settle(Net(1, 2, [(1, 0, Beats(1, []))])).ring, (((0, 1), (0, -1)), ((0, -1), (0, 1))))
        self.assertEqual(settle(Net(60, 2, [(1, 0, Beats(60, [1]))])).beats, (0, 59))

    def test_pieces_have_their_own_zero(self):
        net = Net(7, 5, [(4, 1, Beats(7, [2])), (3, 0, Beats(7, [3, 4]))])
        self.assertEqual(settle(net).beats, (0, 0, 0, 3, 5))

    def test_rings_of_one_and_of_two_ties_that_miss(self):
        net = Net(5, 2, [(0, 1, Beats(5, [1])), (1, 0, Beats(5, [1]))])
        self.assertEqual(sorted(number for number, _ in settle(net).ring), [0, 1])
        net = Net(5, 2, [(0, 1, Beats(5, [1])), (1, 0, Beats(5, []))])
        self.assertIsInstance(settle(net), Miss)

    def test_too_many(self):
        path = [(node, node + 1, Beats(6, [])) for node in range(5)]
        self.assert_fails(TooMany, {"number": 7776}, settle, Net(6, 6, path))
        for length, nodes, count in ((18, 4, 5832), (60, 4, 216000), (9, 5, 6561), (60, 6, 777600000)):
            ties = [(0, node, Beats.every(length)) for node in range(1, nodes)]
            self.assert_fails(TooMany, {"number": count}, settle, Net(length, nodes, ties))

    def test_not_too_many(self):
        for length, nodes in ((17, 4), (60, 3), (8, 5), (5, 6), (1, 6)):
            ties = [(node, 0, Beats(length, [1])) for node in range(1, nodes)]
            self.assertEqual(settle(Net(length, nodes, ties)).beats, (0,) + (-1 % length,) * (nodes - 1))
        ties = [(0, 1, Beats.every(60)), (2, 3, Beats(60, [59]))]
        self.assertEqual(settle(Net(60, 6, ties)).beats, (0, 0, 0, 59, 0, 0))

    def test_told(self):
        self.assertEqual(Settling(Net(5, 1, [])).told(), "net of 1 nodes:")
        self.assertEqual(Settling(Net(5, 0, [])).told(), "net of 0 nodes:")
        self.assertEqual(settle(Net(5, 0, [])).told(), "net of 0 nodes: setting")
        self.assertEqual(settle(Net(60, 2, [(0, 1, Beats(60, [59]))])).told(), "net of 2 nodes: setting 0 59")
        self.assertEqual(settle(three_ties()).told(), "net of 2 nodes: cases with 3 leaves")
        for net in random_nets(2, 60):
            found = settle(net)
            if isinstance(found, Miss):
                words = [f"{number}{'+' if way == 1 else '-'}" for number, way in found.ring]
                self.assertEqual(found.told(), " ".join([f"net of {net.nodes} nodes: ring", *words]))


class CasesTest(Case):
    """Point [27]."""

    def test_trees(self):
        found = 0
        for net in random_nets(3, 400):
            cases = settle(net)
            if isinstance(cases, Cases):
                found += 1
                beats = {piece[0]: 0 for piece in net.pieces()}
                self.assertEqual(leaves(net, cases.tree, beats), len(cases))
                self.assertEqual(cases.told(), f"net of {net.nodes} nodes: cases with {len(cases)} leaves")
                self.assertTrue(cases)
        self.assertGreater(found, 10)

    def test_leaves_of_all_settings(self):
        for net in random_nets(4, 150):
            cases = settle(net)
            if isinstance(cases, Cases):
                for setting in all_settings(net):
                    number = cases.leaf(setting)
                    self.assertIn(number, broken(net, setting))
                    turned = [(beat + 1) % net.length for beat in setting]
                    self.assertEqual(cases.leaf(turned), number)

    def test_wrong_settings(self):
        cases = settle(three_ties(5))
        for setting, place in (([], 0), ([0], 1), ([0, 0, 0], 2), ([5, 0], 0), ([0, -1], 1), ((0, 5), 1)):
            self.assert_fails(BadSetting, {"place": place}, cases.leaf, setting)

    def test_leaf_changes_nothing(self):
        cases, setting = settle(three_ties()), [2, 1]
        tree = cases.tree
        cases.leaf(setting)
        self.assertEqual((setting, cases.tree, len(cases)), ([2, 1], tree, 3))

    def test_many_leaves(self):
        spokes = [(0, node, Beats(8, [0, 1])) for node in range(1, 4)]
        spokes += [(0, 4, Beats(8, [0, 1])), (0, 4, Beats(8, [1, 2])), (0, 4, Beats(8, [0, 2]))]
        net = Net(8, 5, spokes)
        cases = settle(net)
        self.assertIsInstance(cases, Cases)
        self.assertEqual(leaves(net, cases.tree, {0: 0}), len(cases))


class ExampleTest(Case):
    def test_example_of_the_interface(self):
        net = Net(5, 3, [(0, 1, Beats(5, [1])), (1, 2, Beats(5, [1, 2])), (2, 0, Beats(5, [2, 3]))])
        self.assertEqual(list(ring_sum(net, [(0, 1), (1, 1), (2, 1)])), [0, 1, 4])
        self.assertEqual(settle(net).told(), "net of 3 nodes: setting 0 1 2")
