"""Nets: points [22] and [23], and net.plain of point [28]."""

import itertools
import random

from crossinglights.beats import Beats
from crossinglights.errors import BadNet, UnknownTie
from crossinglights.netrings import rings
from crossinglights.nets import Net
from tests.support import Case, random_net


class MakingTest(Case):
    """Point [22]."""

    def assert_bad(self, part, place, *args):
        self.assert_fails(BadNet, {"part": part, "place": place}, Net, *args)

    def test_edges(self):
        net = Net(1, 0, [])
        self.assertEqual((net.length, net.nodes, net.ties), (1, 0, ()))
        tie = (0, 5, Beats.none(60))
        net = Net(60, 6, [tie] * 15)
        self.assertEqual((net.length, net.nodes, len(net.ties)), (60, 6, 15))

    def test_wrong_parts(self):
        tie, wrong = (0, 1, Beats(5, [1])), (0, 0, Beats(5, [1]))
        for length in (0, -1, 61):
            self.assert_bad("length", 0, length, 7, [wrong] * 16)
        for nodes in (-1, 7, 10 ** 9):
            self.assert_bad("nodes", 0, 5, nodes, [wrong] * 16)
        self.assert_bad("ties", 0, 5, 2, [wrong] * 16)
        self.assert_bad("ties", 0, 5, 2, [tie] * 16)
        self.assert_bad("tie", 14, 5, 2, [tie] * 14 + [wrong])

    def test_wrong_ties(self):
        good, beats = (1, 0, Beats(5, [])), Beats(5, [1])
        for wrong in ((1, 1, beats), (0, 2, beats), (2, 0, beats), (-1, 0, beats), (0, -1, beats),
                      (0, 1, Beats(6, [1])), (0, 1, Beats(10, [])), (0, 1)):
            self.assert_bad("tie", 1, 5, 2, [good, wrong, wrong])
        self.assert_bad("tie", 0, 5, 0, [good])

    def test_ties_are_copied(self):
        ties = [(0, 1, Beats(5, [1])), (1, 0, Beats(5, [2]))]
        net = Net(5, 2, ties)
        ties.append((0, 1, Beats(5, [3])))
        ties[0] = (1, 0, Beats(5, []))
        self.assertEqual(net.ties, ((0, 1, Beats(5, [1])), (1, 0, Beats(5, [2]))))


class LookingTest(Case):
    """Point [23]."""

    def test_equality(self):
        tie, back = (0, 1, Beats(5, [1])), (1, 0, Beats(5, [4]))
        net = Net(5, 3, [tie, back])
        self.assertEqual(net, Net(5, 3, ((0, 1, Beats(5, [6])), back)))
        for other in (Net(5, 4, [tie, back]), Net(5, 3, [tie]), Net(5, 3, [back, tie]), Net(5, 3, [tie, tie]),
                      Net(5, 3, [tie, (1, 0, Beats(5, [4, 0]))])):
            self.assertNotEqual(net, other)
        self.assertNotEqual(Net(5, 0, []), Net(6, 0, []))
        self.assertNotEqual(net, (5, 3, (tie, back)))

    def test_plus(self):
        one, two, three = (0, 1, Beats(5, [1])), (1, 2, Beats(5, [2])), (2, 0, Beats(5, []))
        net = Net(5, 3, [one])
        self.assertEqual(net.plus(two, three), Net(5, 3, [one, two, three]))
        self.assertEqual(net.plus(), net)
        self.assertIsNot(net.plus(), net)
        self.assertEqual(net.ties, (one,))
        self.assert_fails(BadNet, {"part": "tie", "place": 2}, net.plus, two, (0, 3, Beats(5, [])), (0, 0, one[2]))
        self.assert_fails(BadNet, {"part": "ties", "place": 0}, net.plus, *[(0, 3, one[2])] * 15)
        self.assertEqual(len(net.plus(*[two] * 14).ties), 15)

    def test_without(self):
        ties = [(0, 1, Beats(5, [k])) for k in range(4)]
        net = Net(5, 2, ties)
        self.assertEqual(net.without(), net)
        self.assertIsNot(net.without(), net)
        self.assertEqual(net.without(2, 0, 2), Net(5, 2, [ties[1], ties[3]]))
        self.assertEqual(net.without(0, 1, 2, 3), Net(5, 2, []))
        self.assertEqual(net.ties, tuple(ties))
        for numbers, wrong in (((4,), 4), ((-1,), -1), ((0, 9, 4), 9), ((3, 3, -1), -1)):
            self.assert_fails(UnknownTie, {"number": wrong}, net.without, *numbers)

    def test_pieces(self):
        beats = Beats(5, [])
        self.assertEqual(Net(5, 0, []).pieces(), [])
        self.assertEqual(Net(5, 3, []).pieces(), [[0], [1], [2]])
        net = Net(5, 6, [(5, 0, beats), (4, 2, beats), (3, 5, beats)])
        self.assertEqual(net.pieces(), [[0, 3, 5], [1], [2, 4]])
        self.assertEqual(net.plus((4, 5, beats), (1, 4, beats)).pieces(), [[0, 1, 2, 3, 4, 5]])

    def test_pieces_of_random_nets(self):
        rng = random.Random(23)
        for _ in range(100):
            net = random_net(rng, 3, rng.randint(0, 6), rng.randint(0, 5))
            linked = {(a, a) for a in range(net.nodes)} | {(a, b) for a, b, _ in net.ties}
            linked |= {(b, a) for a, b in linked}
            for _ in range(net.nodes):
                linked |= {(a, d) for a, b in linked for c, d in linked if b == c}
            wanted = sorted({tuple(b for b in range(net.nodes) if (a, b) in linked) for a in range(net.nodes)})
            self.assertEqual(net.pieces(), [list(piece) for piece in wanted])

    def test_pieces_are_new(self):
        net = Net(5, 2, [])
        pieces = net.pieces()
        pieces[0].append(7)
        pieces.append([8])
        self.assertEqual(net.pieces(), [[0], [1]])


class PlainTest(Case):
    """net.plain of point [28]."""

    def test_plain(self):
        def tie(first, second):
            return (first, second, Beats(3, []))

        ring = [tie(0, 1), tie(1, 2), tie(0, 2)]
        for ties, plain in (([], True), ([tie(0, 1)], True), ([tie(0, 1), tie(1, 0)], True),
                            ([tie(0, 1)] * 3, False), (ring, True), (ring + [tie(2, 1)], False),
                            (ring + [tie(2, 3), tie(3, 4), tie(4, 2)], True), (ring + [tie(2, 3), tie(3, 0)], False),
                            (ring + [tie(2, 3), tie(3, 2)], True), ([tie(0, 1)] * 2 + [tie(1, 2)] * 2, True)):
            self.assertIs(Net(3, 5, ties).plain, plain)

    def test_plain_of_random_nets(self):
        rng = random.Random(28)
        for _ in range(80):
            net = random_net(rng, 2, rng.randint(0, 6), rng.randint(0, 9))
            sets = [{number for number, _ in ring} for ring in rings(net)]
            shared = any(a & b for a, b in itertools.combinations(sets, 2))
            self.assertIs(net.plain, not shared)
