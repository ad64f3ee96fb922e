"""Stages and crowds: point [12]."""

import itertools
import random

from crossinglights.crossings import Crossing
from crossinglights.stages import bare_ring, fewest_stages, greatest_crowd, greatest_stages, is_stage, stages
from tests.support import Case, crossing_of, full_crossing, random_crossing, ring_crossing


def subsets(count):
    """All ascending tuples of streams."""
    return [part for many in range(count + 1) for part in itertools.combinations(range(count), many)]


def rival_pairs(crossing):
    """All pairs of rivals, both ways round."""
    return {pair for a, b, _, _ in crossing.rivals for pair in ((a, b), (b, a))}


def wanted_stages(crossing):
    """All stages that are not empty, straight from the words of the point."""
    rivals = rival_pairs(crossing)
    parts = subsets(len(crossing))[1:]
    return sorted(part for part in parts if not rivals & set(itertools.combinations(part, 2)))


def wanted_crowd(crossing):
    """The least crowd with the most streams."""
    rivals = rival_pairs(crossing)
    crowds = [part for part in subsets(len(crossing))[1:] if set(itertools.combinations(part, 2)) <= rivals]
    return min(crowds, key=lambda crowd: (-len(crowd), crowd))


def wanted_fewest(crossing):
    """The least of the shortest lists of stages in all their orders."""
    count = len(crossing)
    known = wanted_stages(crossing)
    for many in range(1, count + 1):
        lists = [list(parts) for parts in itertools.permutations(known, many)
                 if sorted(itertools.chain(*parts)) == list(range(count))]
        if lists:
            return min(lists)
    return None


def wanted_bare_ring(crossing):
    """The least bare ring by trying all lists of five streams."""
    rivals = rival_pairs(crossing)
    for ring in itertools.permutations(range(len(crossing)), 5):
        near = {frozenset((ring[k], ring[(k + 1) % 5])) for k in range(5)}
        if all((frozenset(pair) in near) == (pair in rivals) for pair in itertools.combinations(ring, 2)):
            return list(ring)
    return None


def many_crossings():
    """Crossings of one to six streams, with no rivals and all rivals among them."""
    rng = random.Random(12)
    for count in range(1, 7):
        yield crossing_of(count)
        yield full_crossing(count, count)
    for _ in range(120):
        yield random_crossing(rng, rng.randint(1, 6))
    for ring in ([0, 1, 2, 3, 4], [5, 2, 4, 1, 3], [3, 0, 5, 1, 2]):
        yield crossing_of(6, *[(ring[k - 1], ring[k], 0, 0) for k in range(5)])
        yield crossing_of(6, *[(ring[k - 1], ring[k], 0, 0) for k in range(5)], (*sorted((ring[0], ring[2])), 1, 1))


class StagesTest(Case):
    def test_is_stage(self):
        for crossing in many_crossings():
            known = wanted_stages(crossing) + [()]
            for part in subsets(len(crossing)):
                self.assertIs(is_stage(crossing, part), part in known)
                self.assertIs(is_stage(crossing, list(part)[::-1]), part in known)

    def test_what_is_no_stage(self):
        crossing = crossing_of(3, (0, 1, 1, 2))
        for streams in ([0, 0], (2, 2), [3], [-1], [0, 3], [2, -1], [1, 2, 0], [1, 2, 1], [10 ** 9]):
            self.assertIs(is_stage(crossing, streams), False, streams)
        self.assertIs(is_stage(crossing, []), True)
        self.assertIs(is_stage(crossing, (2, 1)), True)

    def test_stages(self):
        for crossing in many_crossings():
            self.assertEqual(stages(crossing), wanted_stages(crossing))

    def test_greatest_stages(self):
        for crossing in many_crossings():
            known = wanted_stages(crossing)
            wanted = [one for one in known if not any(set(one) < set(other) for other in known)]
            self.assertEqual(greatest_stages(crossing), wanted)
        self.assertEqual(greatest_stages(crossing_of(6)), [(0, 1, 2, 3, 4, 5)])

    def test_returned_lists_are_new(self):
        crossing = crossing_of(2, (0, 1, 1, 1))
        for call in (stages, greatest_stages, fewest_stages):
            call(crossing).append(5)
            self.assertEqual(call(crossing), [(0,), (1,)])


class CrowdsTest(Case):
    def test_greatest_crowd(self):
        for crossing in many_crossings():
            self.assertEqual(greatest_crowd(crossing), wanted_crowd(crossing))
        self.assertEqual(greatest_crowd(crossing_of(1)), (0,))
        self.assertEqual(greatest_crowd(crossing_of(6)), (0,))
        self.assertEqual(greatest_crowd(full_crossing(6, 1)), (0, 1, 2, 3, 4, 5))

    def test_fewest_stages(self):
        for crossing in many_crossings():
            if len(crossing) <= 5:
                self.assertEqual(fewest_stages(crossing), wanted_fewest(crossing))

    def test_fewest_stages_of_six(self):
        self.assertEqual(fewest_stages(ring_crossing(6)), [(0, 2, 4), (1, 3, 5)])
        self.assertEqual(fewest_stages(crossing_of(6)), [(0, 1, 2, 3, 4, 5)])
        self.assertEqual(fewest_stages(full_crossing(6, 2)), [(k,) for k in range(6)])
        two = crossing_of(6, (0, 1, 0, 0), (0, 2, 0, 0), (3, 1, 0, 0), (3, 2, 0, 0))
        self.assertEqual(fewest_stages(two), [(0, 3), (1, 2, 4, 5)])
        three = crossing_of(6, (0, 5, 0, 0), (1, 2, 0, 0), (1, 3, 0, 0), (2, 3, 0, 0))
        self.assertEqual(fewest_stages(three), [(0, 1), (2,), (3, 4, 5)])

    def test_bare_ring(self):
        found = 0
        for crossing in many_crossings():
            wanted = wanted_bare_ring(crossing)
            self.assertEqual(bare_ring(crossing), wanted)
            found += wanted is not None
        self.assertGreaterEqual(found, 3)
        self.assertEqual(bare_ring(ring_crossing(5)), [0, 1, 2, 3, 4])
        self.assertIsNone(bare_ring(ring_crossing(4)))
        self.assertIsNone(bare_ring(ring_crossing(6)))
        self.assertIsNone(bare_ring(full_crossing(5, 1)))

    def test_fact_about_fewest_stages(self):
        for crossing in many_crossings():
            more = len(fewest_stages(crossing)) - len(greatest_crowd(crossing))
            self.assertIn(more, (0, 1))
            if more == 1:
                self.assertIsNotNone(bare_ring(crossing))
        ring = ring_crossing(5)
        self.assertEqual(len(fewest_stages(ring)), len(greatest_crowd(ring)) + 1)


class ExampleTest(Case):
    def test_example_of_the_interface(self):
        crossing = Crossing(["a", "b", "c"], [(0, 1, 1, 2), (0, 2, 0, 1)])
        found = [stages(crossing), greatest_crowd(crossing), fewest_stages(crossing)]
        self.assertEqual(found, [[(0,), (1,), (1, 2), (2,)], (0, 1), [(0,), (1, 2)]])
