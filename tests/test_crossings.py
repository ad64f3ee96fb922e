"""Crossings: points [10] and [11]."""

import itertools
import random

from crossinglights.crossings import Crossing
from crossinglights.errors import BadCrossing, UnknownName, UnknownStream
from tests.support import NAMES, Case, crossing_of, random_crossing


class MakingTest(Case):
    """Point [10]."""

    def assert_bad(self, part, place, streams, rivals):
        self.assert_fails(BadCrossing, {"part": part, "place": place}, Crossing, streams, rivals)

    def test_one_and_six_streams(self):
        self.assertEqual(Crossing(["abcdefgh"], []).streams, ("abcdefgh",))
        self.assertEqual(Crossing(tuple(NAMES), []).streams, tuple(NAMES))
        pairs = list(itertools.combinations(range(6), 2))
        crossing = crossing_of(6, *[(a, b, 0, 9) for a, b in pairs])
        self.assertEqual(len(crossing.rivals), 15)

    def test_number_of_streams(self):
        self.assert_bad("streams", 0, [], [(0, 0, 0, 0)])
        self.assert_bad("streams", 0, NAMES + ["g"], [])
        self.assert_bad("streams", 0, ["A"] * 7, [])

    def test_names_of_streams(self):
        self.assert_bad("stream", 1, ["a", "B", ""], [(0, 0, 0, 0)])
        self.assert_bad("stream", 0, ["", "a", "a"], [])
        self.assert_bad("stream", 2, ["a", "b", "a", "b"], [])
        self.assert_bad("stream", 1, ["a", "abcdefghi"], [])

    def test_rivals(self):
        good = (0, 1, 0, 9)
        for wrong in ((1, 1, 0, 0), (-1, 2, 0, 0), (2, -1, 0, 0), (3, 0, 0, 0), (0, 3, 0, 0), (0, 2, -1, 0),
                      (0, 2, 0, -1), (0, 2, 10, 0), (0, 2, 0, 10), (0, 1, 0, 9), (1, 0, 3, 3), (0, 2, 1)):
            self.assert_bad("rival", 1, ["a", "b", "c"], [good, wrong, (9, 9, 9, 9)])
        self.assert_bad("rival", 0, ["a"], [(0, 1, 1, 1)])

    def test_attributes_are_copies(self):
        streams, rivals = ["a", "b"], [(1, 0, 2, 3)]
        crossing = Crossing(streams, rivals)
        streams.append("c")
        rivals[0] = (0, 1, 0, 0)
        rivals.append((0, 2, 1, 1))
        self.assertEqual((crossing.streams, crossing.rivals), (("a", "b"), ((1, 0, 2, 3),)))
        self.assertEqual((crossing.span(1, 0), crossing.span(0, 1), len(crossing)), (2, 3, 2))


class LookingTest(Case):
    """Point [11]."""

    def setUp(self):
        self.crossing = crossing_of(4, (2, 0, 5, 0), (0, 1, 1, 9), (1, 2, 0, 0))

    def test_order_of_attributes(self):
        self.assertEqual(self.crossing.streams, ("a", "b", "c", "d"))
        self.assertEqual(self.crossing.rivals, ((2, 0, 5, 0), (0, 1, 1, 9), (1, 2, 0, 0)))
        self.assertEqual(len(self.crossing), 4)

    def test_index(self):
        self.assertEqual([self.crossing.index(name) for name in "abcd"], [0, 1, 2, 3])
        for name in ("e", "", "ab", "A", "1", "a b"):
            self.assert_fails(UnknownName, {"name": name}, self.crossing.index, name)

    def test_span(self):
        table = [[self.crossing.span(a, b) for b in range(4)] for a in range(4)]
        self.assertEqual(table, [[None, 1, 0, None], [9, None, 0, None], [5, 0, None, None], [None] * 4])

    def test_span_of_unknown_streams(self):
        for first, second, wrong in ((4, 5, 4), (0, 4, 4), (-1, 4, -1), (2, -1, -1), (-1, 0, -1), (9, 9, 9)):
            self.assert_fails(UnknownStream, {"number": wrong}, self.crossing.span, first, second)

    def test_longest(self):
        self.assertEqual([self.crossing.longest(stream) for stream in range(4)], [1, 9, 5, 0])
        for stream in (4, -1, 10 ** 9):
            self.assert_fails(UnknownStream, {"number": stream}, self.crossing.longest, stream)

    def test_longest_of_random_crossings(self):
        rng = random.Random(11)
        for _ in range(40):
            crossing = random_crossing(rng, rng.randint(1, 6))
            for a in range(len(crossing)):
                spans = [crossing.span(a, b) for b in range(len(crossing))]
                self.assertEqual(crossing.longest(a), max([span for span in spans if span is not None] + [0]))

    def test_equality(self):
        same = crossing_of(4, (1, 0, 9, 1), (1, 2, 0, 0), (0, 2, 0, 5))
        self.assertEqual(self.crossing, same)
        self.assertEqual(Crossing(("a",), ()), Crossing(["a"], []))
        for other in (crossing_of(4, (2, 0, 5, 0), (0, 1, 1, 9)), crossing_of(3, *self.crossing.rivals),
                      crossing_of(4, (2, 0, 0, 5), (0, 1, 1, 9), (1, 2, 0, 0)),
                      Crossing(["b", "a", "c", "d"], self.crossing.rivals)):
            self.assertNotEqual(self.crossing, other)
        self.assertNotEqual(crossing_of(2), crossing_of(2, (0, 1, 0, 0)))
        self.assertNotEqual(self.crossing, ("a", "b", "c", "d"))
