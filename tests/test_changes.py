"""Changes between stages and closed walks: points [13] and [14]."""

import itertools
import random

from crossinglights.changes import change, least_lost, least_walk, lost
from crossinglights.crossings import Crossing
from crossinglights.errors import BadNumber, NotCrowd, NotStage
from crossinglights.stages import stages
from tests.support import Case, crossing_of, full_crossing, random_crossing


def wanted_change(crossing, before, after):
    """The change in the words of point [13]."""
    spans = [crossing.span(a, b) for a in set(before) - set(after) for b in set(after) - set(before)]
    return max([span for span in spans if span is not None] + [0])


def wanted_lost(crossing, parts):
    """The sum of the changes around."""
    return sum(wanted_change(crossing, parts[k - 1], parts[k]) for k in range(len(parts)))


def some_stages(seed, count=60):
    """Crossings with one to six of their stages, the empty one and some twice among them."""
    rng = random.Random(seed)
    for _ in range(count):
        crossing = random_crossing(rng, rng.randint(1, 6))
        known = stages(crossing) + [()]
        parts = [list(rng.choice(known)) for _ in range(rng.randint(1, 6))]
        for part in parts:
            rng.shuffle(part)
        yield crossing, parts


class ChangeTest(Case):
    """Point [13]."""

    def setUp(self):
        self.crossing = crossing_of(4, (0, 1, 3, 2), (0, 2, 0, 9))

    def test_change(self):
        for crossing, parts in some_stages(1):
            for before, after in zip(parts, parts[1:]):
                self.assertEqual(change(crossing, before, tuple(after)), wanted_change(crossing, before, after))

    def test_edges_of_change(self):
        for before, after, beats in (([], [], 0), ([], [0], 0), ([0], [], 0), ([0], [0], 0), ([0], [1], 3),
                                     ([1], [0], 2), ([2, 1], (0, 3), 9), ((3, 0), [1, 2], 3), ([1, 3], [3, 1], 0),
                                     ([0], [2], 0), ([1, 2], [2, 3], 0)):
            self.assertEqual(change(self.crossing, before, after), beats)

    def test_wrong_stages(self):
        for wrong in ([0, 1], [3, 3], [4], [-1], (2, 0)):
            self.assert_fails(NotStage, {}, change, self.crossing, wrong, [0])
            self.assert_fails(NotStage, {}, change, self.crossing, [0], wrong)
            self.assert_fails(NotStage, {}, lost, self.crossing, [[0], wrong])
            self.assert_fails(NotStage, {}, lost, self.crossing, [wrong])
            self.assert_fails(NotStage, {}, least_lost, self.crossing, [wrong])
            self.assert_fails(NotStage, {}, least_lost, self.crossing, [[0], [1], wrong])

    def test_lost(self):
        for crossing, parts in some_stages(2):
            self.assertEqual(lost(crossing, parts), wanted_lost(crossing, parts))
            self.assertEqual(lost(crossing, tuple(parts)), wanted_lost(crossing, parts))
        self.assertEqual(lost(self.crossing, [[0]]), 0)
        self.assertEqual(lost(self.crossing, [[0], [0]]), 0)
        self.assertEqual(lost(self.crossing, [[0], [1]]), 5)

    def test_numbers_of_stages(self):
        for call in (lost, least_lost):
            for many in (0, 7, 30):
                self.assert_fails(BadNumber, {"number": many}, call, self.crossing, [[0, 1]] * many)
            call(self.crossing, [[3]] * 6)

    def test_least_lost(self):
        for crossing, parts in some_stages(3):
            found = []
            for tail in itertools.permutations(range(1, len(parts))):
                places = [0, *tail]
                found.append((wanted_lost(crossing, [parts[k] for k in places]), places))
            self.assertEqual(least_lost(crossing, parts), min(found))

    def test_edges_of_least_lost(self):
        self.assertEqual(least_lost(self.crossing, [[1]]), (0, [0]))
        self.assertEqual(least_lost(self.crossing, [[3]] * 6), (0, [0, 1, 2, 3, 4, 5]))
        three = full_crossing(3, 9)
        clockwise = three.span(0, 1) + three.span(1, 2) + three.span(2, 0)
        back = three.span(0, 2) + three.span(2, 1) + three.span(1, 0)
        wanted = min((clockwise, [0, 1, 2]), (back, [0, 2, 1]))
        self.assertEqual(least_lost(three, ([0], [1], [2])), wanted)

    def test_what_is_passed_stays(self):
        parts = [[2, 1], [0], []]
        lost(self.crossing, parts)
        number, places = least_lost(self.crossing, parts)
        places.append(9)
        self.assertEqual(parts, [[2, 1], [0], []])
        self.assertEqual(least_lost(self.crossing, parts), (number, places[:-1]))


def least_walk_by_search(crossing, streams):
    """Walks over states of the last stream and the streams met, by the beats used (all spans are integers)."""
    first = streams[0]
    best = {(first, frozenset([first])): 0}
    changed = True
    while changed:
        changed = False
        for (at, met), beats in list(best.items()):
            for to in streams:
                if to != at:
                    key = (to, met | {to})
                    if beats + crossing.span(at, to) < best.get(key, 10 ** 9):
                        best[key] = beats + crossing.span(at, to)
                        changed = True
    return best[(first, frozenset(streams))]


class WalkTest(Case):
    """Point [14]."""

    def test_walks(self):
        rng = random.Random(14)
        for count in range(2, 6):
            for seed in range(12):
                crossing = full_crossing(count, seed)
                streams = rng.sample(range(count), rng.randint(2, count))
                self.assertEqual(least_walk(crossing, streams), least_walk_by_search(crossing, streams))

    def test_walk_of_six(self):
        crossing = full_crossing(6, 3)
        self.assertEqual(least_walk(crossing, [5, 4, 3, 2, 1, 0]), least_walk_by_search(crossing, range(6)))

    def test_a_walk_that_meets_a_stream_twice(self):
        around = crossing_of(3, (0, 1, 1, 1), (1, 2, 1, 1), (0, 2, 9, 9))
        self.assertEqual(least_walk(around, [0, 1, 2]), 4)

    def test_a_walk_stays_in_its_crowd(self):
        around = crossing_of(3, (0, 1, 1, 1), (1, 2, 1, 1), (0, 2, 9, 9))
        self.assertEqual(least_walk(around, (2, 0)), 18)

    def test_small_crowds(self):
        crossing = crossing_of(3, (0, 1, 0, 7))
        self.assertEqual([least_walk(crossing, [k]) for k in range(3)], [0, 0, 0])
        self.assertEqual([least_walk(crossing, [0, 1]), least_walk(crossing, (1, 0))], [7, 7])

    def test_what_is_no_crowd(self):
        crossing = crossing_of(3, (0, 1, 1, 1))
        for streams in ([], [0, 2], [0, 0], [3], [-1], [0, 1, 2], [0, 1, 0], (1, 3)):
            self.assert_fails(NotCrowd, {}, least_walk, crossing, streams)


class ExampleTest(Case):
    def test_example_of_the_interface(self):
        crossing = Crossing(["a", "b", "c"], [(0, 1, 1, 2), (0, 2, 0, 1)])
        found = [change(crossing, [0], [1, 2]), lost(crossing, [[0], [1, 2]]), least_walk(crossing, [1, 0])]
        self.assertEqual(found, [1, 3, 3])
