"""Settings and rings of nets: points [24] and [25]."""

import inspect
import itertools
import random

from crossinglights.beats import Beats
from crossinglights.errors import BadRing, BadSetting
from crossinglights.netrings import broken, check_setting, is_ring, misses, ring_sum, rings
from crossinglights.nets import Net
from tests.support import Case, all_settings, keeps, random_net


def small_net(*pairs, nodes=4, length=5):
    """A net with ties between these pairs, each with one beat."""
    return Net(length, nodes, [(a, b, Beats(length, [1])) for a, b in pairs])


def random_nets(seed, count, length=3, nodes=4, ties=5):
    """Nets with up to so many nodes and ties."""
    rng = random.Random(seed)
    for _ in range(count):
        yield random_net(rng, length, rng.randint(0, nodes), rng.randint(0, ties))


def wanted_place(net, ring):
    """The place of BadRing in the words of point [25], or None."""
    ends = []
    for number, direction in ring:
        if 0 <= number < len(net.ties) and direction in (1, -1):
            ends.append(net.ties[number][:2][::direction])
        else:
            ends.append(None)
    for place, end in enumerate(ends):
        if end is None or (place and end[0] != ends[place - 1][1]) or end[0] in [x[0] for x in ends[:place]]:
            return place
    if len(ring) >= 2 and ends[-1][1] == ends[0][0]:
        return None
    return len(ring)


def all_step_lists(net, most):
    """All lists of steps up to a length, with some steps that do not exist."""
    steps = [(number, way) for number in range(-1, len(net.ties) + 1) for way in (1, -1, 0)]
    for many in range(most + 1):
        yield from itertools.product(steps, repeat=many)


def wanted_rings(net):
    """The rings that point [25] names, by trying all lists of existing steps."""
    steps = [(number, way) for number in range(len(net.ties)) for way in (-1, 1)]
    best = {}
    for many in range(2, net.nodes + 1):
        for ring in itertools.product(steps, repeat=many):
            ties = frozenset(number for number, _ in ring)
            if len(ties) > 1 and wanted_place(net, ring) is None:
                begins = [net.ties[number][:2][::way][0] for number, way in ring]
                if begins[0] == min(begins):
                    best[ties] = min(best.get(ties, list(ring)), list(ring))
    return sorted(best.values(), key=lambda ring: (len(ring), ring))


class SettingTest(Case):
    """Point [24]."""

    def test_check_setting(self):
        net = small_net((0, 1), nodes=3)
        for setting in ([0, 0, 0], (4, 4, 4), [1, 3, 0]):
            self.assertIsNone(check_setting(net, setting))
        self.assertIsNone(check_setting(Net(5, 0, []), []))
        self.assertIsNone(check_setting(Net(60, 1, []), [59]))
        self.assertIsNone(check_setting(Net(1, 1, []), (0,)))

    def test_wrong_settings(self):
        net = small_net((0, 1), nodes=3)
        for setting, place in (([], 0), ([0], 1), ([0, 0], 2), ([0, 0, 0, 0], 3), ([5, 0, 0], 0), ([0, -1, 9], 1),
                               ([0, 5], 1), ((0, 0, 0, 9), 3), ((0, 0, -1, 0), 2), ([0, 0, 10 ** 9], 2)):
            self.assert_fails(BadSetting, {"place": place}, check_setting, net, setting)
            self.assert_fails(BadSetting, {"place": place}, broken, net, setting)
        self.assert_fails(BadSetting, {"place": 0}, check_setting, Net(5, 0, []), [0])

    def test_broken(self):
        for net in random_nets(24, 80):
            for setting in all_settings(net):
                wanted = [k for k, tie in enumerate(net.ties) if not keeps(Net(3, net.nodes, [tie]), setting)]
                self.assertEqual(broken(net, setting), wanted)
                self.assertEqual(broken(net, list(setting)), wanted)

    def test_direction_of_ties(self):
        net = Net(7, 2, [(0, 1, Beats(7, [2])), (1, 0, Beats(7, [2])), (0, 1, Beats(7, []))])
        self.assertEqual(broken(net, [6, 1]), [1, 2])
        self.assertEqual(broken(net, [1, 6]), [0, 2])
        self.assertEqual(broken(net, [1, 1]), [0, 1, 2])


class RingTest(Case):
    """is_ring, ring_sum and misses of point [25]."""

    def test_all_short_lists_of_steps(self):
        nets = [small_net((0, 1), (2, 1), nodes=3), small_net((0, 1), (1, 0), nodes=2), small_net(nodes=2)]
        for net in nets:
            for ring in all_step_lists(net, 3):
                place = wanted_place(net, ring)
                self.assertIs(is_ring(net, ring), place is None)
                if place is not None:
                    self.assert_fails(BadRing, {"place": place}, ring_sum, net, list(ring))
                    self.assertIs(misses(net, ring), False)

    def test_named_rings(self):
        net = small_net((0, 1), (1, 2), (0, 2), (1, 0))
        for ring in ([(0, 1), (0, -1)], [(0, -1), (0, 1)], [(0, 1), (3, 1)], [(3, 1), (3, -1)],
                     [(0, 1), (1, 1), (2, -1)], ((2, 1), (1, -1), (0, -1)), [(1, 1), (2, -1), (0, 1)]):
            self.assertIs(is_ring(net, ring), True)
        for ring, place in (([], 0), ([(0, 1)], 1), ([(4, 1), (9, 1)], 0), ([(0, 1), (0, 1)], 1),
                            ([(0, 1), (1, 1)], 2), ([(0, 1), (1, 1), (1, -1), (3, 1)], 3), ([(0, 1), (0, 2)], 1),
                            ([(0, 1), (0, -1), (0, 1), (0, -1)], 2), ([(-1, 1), (0, -1)], 0), ([(0, 0)], 0)):
            self.assertIs(is_ring(net, ring), False)
            self.assert_fails(BadRing, {"place": place}, ring_sum, net, ring)

    def test_sums(self):
        for net in random_nets(25, 60, length=4):
            for ring in wanted_rings(net):
                totals = {0}
                for number, way in ring:
                    totals = {(x + way * y) % 4 for x in totals for y in net.ties[number][2]}
                for turned in (ring, tuple(ring[1:]) + tuple(ring[:1])):
                    self.assertEqual(ring_sum(net, turned), Beats(4, list(totals)))
                    self.assertIs(misses(net, turned), 0 not in totals)

    def test_a_ring_along_one_tie(self):
        net = Net(6, 2, [(0, 1, Beats(6, [1, 3])), (1, 0, Beats(6, []))])
        self.assertEqual(list(ring_sum(net, [(0, 1), (0, -1)])), [0, 2, 4])
        self.assertIs(misses(net, [(0, -1), (0, 1)]), False)
        self.assertIs(misses(net, [(1, 1), (1, -1)]), True)

    def test_nets_with_a_ring_that_misses_are_kept_by_no_setting(self):
        found = 0
        for net in random_nets(26, 80):
            if any(misses(net, ring) for ring in rings(net)):
                found += 1
                self.assertFalse(any(keeps(net, setting) for setting in all_settings(net)))
        self.assertGreater(found, 10)


class RingsTest(Case):
    """The generator of point [25]."""

    def test_rings(self):
        for net in random_nets(27, 60):
            self.assertEqual(list(rings(net)), wanted_rings(net))

    def test_more_ties(self):
        for net in random_nets(28, 6, nodes=3, ties=9):
            self.assertEqual(list(rings(net)), wanted_rings(net))

    def test_ties_between_the_same_nodes(self):
        net = small_net((1, 0), (0, 1), (1, 0), nodes=2)
        self.assertEqual(list(rings(net)), [[(0, -1), (1, -1)], [(0, -1), (2, 1)], [(1, 1), (2, 1)]])

    def test_ways_round(self):
        net = small_net((2, 0), (1, 2), (0, 1), (3, 2), (2, 3))
        self.assertEqual(list(rings(net)), [[(3, -1), (4, -1)], [(0, -1), (1, -1), (2, -1)]])

    def test_many_rings(self):
        net = small_net(*itertools.combinations(range(6), 2), nodes=6)
        found = list(rings(net))
        self.assertEqual([sum(len(ring) == many for ring in found) for many in range(2, 7)], [0, 20, 45, 72, 60])
        self.assertEqual(len(list(rings(small_net(*[(0, 1)] * 15, nodes=2)))), 105)
        three = small_net(*[(0, 1)] * 5, *[(1, 2)] * 5, *[(2, 0)] * 5, nodes=3)
        self.assertEqual(len(list(rings(three))), 3 * 10 + 125)

    def test_no_rings(self):
        self.assertEqual(list(rings(Net(5, 0, []))), [])
        self.assertEqual(list(rings(small_net((0, 1), (1, 2), (3, 1)))), [])

    def test_it_is_a_generator_of_new_lists(self):
        net = small_net((0, 1), (0, 1), nodes=2)
        self.assertTrue(inspect.isgeneratorfunction(rings))
        next(rings(net)).append((9, 9))
        self.assertEqual(list(rings(net)), [[(0, 1), (1, -1)]])
