"""Orders, their rings and the earliest plans: points [18] and [19]."""

import itertools
import random
from fractions import Fraction

from crossinglights.crossings import Crossing
from crossinglights.errors import BadOrder, BadPlan, BadRing, ShortRound
from crossinglights.orders import earliest, least_length, ring_need, tightest
from crossinglights.plans import Plan
from tests.support import Case, crossing_of, full_crossing, random_crossing


def wanted_need(crossing, greens, order, ring):
    """The beats and the rounds of a ring in the words of point [18]."""
    beats, rounds = 0, 0
    for a, b in zip(ring, list(ring[1:]) + [ring[0]]):
        around = 0 if list(order).index(a) < list(order).index(b) else 1
        rounds += around
        if a == b:
            beats += greens[a]
        elif crossing.span(a, b) is not None:
            beats += greens[a] + crossing.span(a, b)
        else:
            beats += around
    return beats, rounds


def all_stream_rings(count):
    """All lists of different streams."""
    return [ring for many in range(1, count + 1) for ring in itertools.permutations(range(count), many)]


def wanted_tightest(crossing, greens, order):
    """The greatest quotient, then the fewest streams, then the least tuple, over all rings."""
    def rank(ring):
        beats, rounds = wanted_need(crossing, greens, order, ring)
        return (-Fraction(beats, rounds), len(ring), ring)
    ring = min(all_stream_rings(len(crossing)), key=rank)
    return (*wanted_need(crossing, greens, order, ring), ring)


def follows(plan, order):
    """Return True if the plan follows the order."""
    later = [(plan.begins[s] - plan.begins[order[0]]) % plan.length for s in order]
    return later == sorted(later)


def plans_that_follow(crossing, length, greens, order):
    """All plans with these greens that follow the order and whose first stream begins at 0."""
    found = []
    for begins in itertools.product(range(length), repeat=len(crossing)):
        if begins[order[0]] == 0:
            try:
                plan = Plan(crossing, length, begins, greens)
            except BadPlan:
                continue
            if follows(plan, order):
                found.append(plan)
    return found


def some_orders(seed, count, streams, greatest=9, green=9):
    """Random crossings with greens and an order."""
    rng = random.Random(seed)
    for _ in range(count):
        crossing = random_crossing(rng, rng.randint(1, streams), greatest)
        greens = [rng.randint(1, green) for _ in crossing.streams]
        yield crossing, greens, rng.sample(range(len(crossing)), len(crossing))


class RingTest(Case):
    def test_needs_of_all_rings(self):
        for crossing, greens, order in some_orders(1, 30, 4):
            for ring in all_stream_rings(len(crossing)):
                wanted = wanted_need(crossing, greens, order, ring)
                self.assertEqual(ring_need(crossing, greens, order, ring), wanted)
                self.assertEqual(ring_need(crossing, tuple(greens), tuple(order), list(ring)), wanted)

    def test_steps_between_streams_that_are_no_rivals(self):
        crossing = crossing_of(3, (0, 1, 4, 5))
        self.assertEqual(ring_need(crossing, [7, 8, 9], [0, 1, 2], [0, 2]), (1, 1))
        self.assertEqual(ring_need(crossing, [7, 8, 9], [0, 1, 2], [2, 1, 0]), (1 + 13 + 0, 2))
        self.assertEqual(ring_need(crossing, [7, 8, 9], [0, 1, 2], [2]), (9, 1))
        self.assertEqual(ring_need(crossing, [7, 8, 9], [1, 0, 2], [0, 1]), (7 + 4 + 8 + 5, 1))

    def test_wrong_rings(self):
        crossing = crossing_of(3)
        for ring, place in (([], 0), ([3], 0), ([0, -1], 1), ([0, 1, 0], 2), ([0, 0, 3], 1), ((0, 1, 2, 1), 3)):
            self.assert_fails(BadRing, {"place": place}, ring_need, crossing, [1, 1, 1], [0, 1, 2], ring)


class TightestTest(Case):
    def test_tightest(self):
        for crossing, greens, order in some_orders(2, 120, 4):
            self.assertEqual(tightest(crossing, greens, order), wanted_tightest(crossing, greens, order))

    def test_tightest_among_many_equal_rings(self):
        for crossing, greens, order in some_orders(3, 120, 4, greatest=1, green=2):
            self.assertEqual(tightest(crossing, greens, order), wanted_tightest(crossing, greens, order))

    def test_tightest_of_five_and_six(self):
        for crossing, greens, order in some_orders(4, 12, 6):
            self.assertEqual(tightest(crossing, greens, order), wanted_tightest(crossing, greens, order))
        crossing = full_crossing(6, 6)
        order = [5, 3, 1, 0, 2, 4]
        self.assertEqual(tightest(crossing, [3] * 6, order), wanted_tightest(crossing, [3] * 6, order))

    def test_needs_are_not_in_lowest_terms(self):
        crossing = crossing_of(3, (0, 1, 0, 5), (1, 2, 0, 5), (0, 2, 5, 0))
        self.assertEqual(tightest(crossing, [1, 1, 1], [0, 1, 2])[1], 2)
        self.assertEqual(tightest(crossing, [1, 1, 1], [0, 1, 2]), (18, 2, (0, 2, 1)))

    def test_one_stream(self):
        self.assertEqual(tightest(crossing_of(1), [60], [0]), (60, 1, (0,)))
        self.assertEqual(least_length(crossing_of(1), (60,), (0,)), 60)


class LengthTest(Case):
    def test_least_length_is_rounded_up(self):
        for crossing, greens, order in some_orders(5, 80, 4):
            beats, rounds, _ = wanted_tightest(crossing, greens, order)
            length = least_length(crossing, greens, order)
            self.assertTrue(length * rounds >= beats > (length - 1) * rounds)

    def test_lengths_above_sixty(self):
        crossing = crossing_of(2, (0, 1, 9, 9))
        self.assertEqual(least_length(crossing, [60, 60], [0, 1]), 138)
        self.assertEqual(tightest(crossing, [60, 60], [1, 0]), (138, 1, (0, 1)))
        self.assert_fails(ShortRound, {"ring": (0, 1)}, earliest, crossing, 60, [60, 60], [0, 1])

    def test_rings_of_two_rounds_forbid_lengths(self):
        crossing = crossing_of(3, (0, 1, 0, 5), (1, 2, 0, 5), (0, 2, 5, 0))
        self.assertEqual(least_length(crossing, [1, 1, 1], [0, 1, 2]), 9)
        self.assert_fails(ShortRound, {"ring": (0, 2, 1)}, earliest, crossing, 8, [1, 1, 1], [0, 1, 2])
        self.assertEqual(earliest(crossing, 9, [1, 1, 1], [0, 1, 2]).begins, (0, 3, 6))


class EarliestTest(Case):
    def test_earliest_is_the_least_plan_for_every_stream(self):
        short, long = 0, 0
        for crossing, greens, order in some_orders(6, 150, 3, greatest=2, green=3):
            for length in (max(greens), 4, 7, 10):
                plans = plans_that_follow(crossing, length, greens, order)
                beats, rounds, ring = wanted_tightest(crossing, greens, order)
                self.assertIs(bool(plans), beats <= length * rounds)
                if not plans:
                    short += 1
                    self.assert_fails(ShortRound, {"ring": ring}, earliest, crossing, length, greens, order)
                else:
                    long += 1
                    plan = earliest(crossing, length, greens, order)
                    self.assertIn(plan, plans)
                    least = tuple(min(other.begins[s] for other in plans) for s in range(len(crossing)))
                    self.assertEqual(plan.begins, least)
        self.assertGreater(short, 50)
        self.assertGreater(long, 50)

    def test_earliest_of_many_streams(self):
        for crossing, greens, order in some_orders(7, 40, 6, greatest=3, green=4):
            length = least_length(crossing, greens, order)
            if length <= 60:
                plan = earliest(crossing, length, greens, order)
                self.assertTrue(follows(plan, order))
                self.assertEqual((plan.begins[order[0]], plan.greens), (0, tuple(greens)))

    def test_edges(self):
        self.assertEqual(earliest(crossing_of(1), 1, [1], [0]).begins, (0,))
        self.assertEqual(earliest(crossing_of(6), 60, [60] * 6, [5, 4, 3, 2, 1, 0]).begins, (0,) * 6)
        self.assert_fails(ShortRound, {"ring": (0,)}, earliest, crossing_of(1), 59, [60], [0])


class WrongTest(Case):
    def test_first_failing_check(self):
        crossing = crossing_of(2, (0, 1, 1, 1))
        calls = [lambda greens, order: ring_need(crossing, greens, order, []),
                 lambda greens, order: tightest(crossing, greens, order),
                 lambda greens, order: least_length(crossing, greens, order),
                 lambda greens, order: earliest(crossing, 1, greens, order)]
        for call in calls:
            for greens, place in (([], 0), ([1], 1), ([1, 1, 1], 2), ([0, 1], 0), ([1, 61], 1), ((60, -1), 1)):
                self.assert_fails(BadPlan, {"part": "greens", "place": place}, call, greens, [5])
            for order, place in (([], 0), ([0], 1), ([1], 1), ([0, 1, 0], 2), ([0, 0], 1), ([2, 0], 0), ([0, -1], 1),
                                 ((1, 0, 2), 2), ((0, 2, 1), 1)):
                self.assert_fails(BadOrder, {"place": place}, call, [60, 1], order)

    def test_length_comes_first(self):
        for length in (0, -1, 61):
            wanted = {"part": "length", "place": 0}
            self.assert_fails(BadPlan, wanted, earliest, crossing_of(2), length, [0, 0], [5])

    def test_what_is_passed_stays(self):
        crossing, greens, order = crossing_of(2, (0, 1, 1, 1)), [2, 3], [1, 0]
        plan = earliest(crossing, 10, greens, order)
        tightest(crossing, greens, order)
        self.assertEqual((greens, order), ([2, 3], [1, 0]))
        greens[0] = 9
        self.assertEqual(plan.greens, (2, 3))


class ExampleTest(Case):
    def test_examples_of_the_interface(self):
        crossing = Crossing(["a", "b", "c"], [(0, 1, 1, 2), (0, 2, 0, 1)])
        self.assertEqual(ring_need(crossing, [2, 1, 1], [0, 1, 2], [0, 2, 1]), (6, 2))
        self.assertEqual(tightest(crossing, [2, 1, 1], [0, 1, 2]), (6, 1, (0, 1)))
        self.assertEqual(earliest(crossing, 6, [2, 1, 1], [0, 1, 2]).begins, (0, 3, 3))
        self.assert_fails(ShortRound, {"ring": (0, 1)}, earliest, crossing, 5, [2, 1, 1], [0, 1, 2])
