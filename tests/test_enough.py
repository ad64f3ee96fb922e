"""Greens and rounds that are enough for rates: point [21]."""

import random
from fractions import Fraction

from crossinglights.enough import least_enough, load, needed_greens
from crossinglights.errors import BadNumber, BadOrder, BadRates
from crossinglights.orders import earliest, tightest
from crossinglights.rates import Rate
from tests.support import Case, crossing_of, full_crossing, random_crossing

ALL_RATES = [Rate(burst, num, den) for burst in (1, 3) for den in range(1, 7) for num in range(1, den + 1)]


def some_rates(seed, count):
    """Random crossings with rates, some of them None, and an order."""
    rng = random.Random(seed)
    for _ in range(count):
        crossing = random_crossing(rng, rng.randint(1, 3), 3)
        rates = [rng.choice(ALL_RATES + [None] * 10) for _ in crossing.streams]
        yield crossing, rates, rng.sample(range(len(crossing)), len(crossing))


class GreensTest(Case):
    def test_needed_greens(self):
        for length in (1, 2, 5, 12, 59, 60):
            wanted = []
            for rate in ALL_RATES:
                wanted.append(min(g for g in range(1, 61) if g * rate.den >= rate.num * length))
            self.assertEqual(needed_greens(length, ALL_RATES), wanted)

    def test_without_rates(self):
        self.assertEqual(needed_greens(60, [None, Rate(1, 1, 1), None]), [1, 60, 1])
        self.assertEqual(needed_greens(7, (Rate(2, 1, 3), None)), [3, 1])
        self.assertEqual(needed_greens(1, []), [])

    def test_wrong_lengths(self):
        for length in (0, -1, 61, 10 ** 9):
            self.assert_fails(BadNumber, {"number": length}, needed_greens, length, [None])


class EnoughTest(Case):
    def test_least_enough(self):
        good, none = 0, 0
        for crossing, rates, order in some_rates(1, 60):
            found = least_enough(crossing, rates, order)
            last = 60 if found.length is None else found.length
            rings = []
            for length in range(1, last + 1):
                greens = needed_greens(length, rates)
                beats, rounds, ring = tightest(crossing, greens, order)
                if beats > length * rounds:
                    rings.append(ring)
                elif length == found.length:
                    self.assertEqual(found.plan, earliest(crossing, length, greens, order))
            self.assertEqual(found.rings, rings)
            if found.length is None:
                none += 1
                self.assertIsNone(found.plan)
                self.assertEqual(len(rings), 60)
            else:
                good += 1
                self.assertEqual(len(rings), found.length - 1)
        self.assertGreater(good, 10)
        self.assertGreater(none, 10)

    def test_edges(self):
        found = least_enough(crossing_of(1), [None], [0])
        self.assertEqual((found.length, found.plan.begins, found.rings), (1, (0,), []))
        self.assertEqual(list(vars(found))[:3], ["length", "plan", "rings"])
        found = least_enough(crossing_of(2, (0, 1, 0, 0)), (Rate(1, 1, 2), Rate(1, 1, 2)), (1, 0))
        self.assertEqual((found.length, found.plan.greens, found.rings), (2, (1, 1), [(0, 1)]))

    def test_rings_are_tuples(self):
        found = least_enough(crossing_of(2, (0, 1, 1, 1)), [None, None], [0, 1])
        self.assertEqual((found.length, found.rings), (4, [(0, 1)] * 3))

    def test_six_streams(self):
        found = least_enough(full_crossing(6, 3), [None] * 6, [0, 1, 2, 3, 4, 5])
        self.assertEqual(len(found.rings), 60 if found.length is None else found.length - 1)

    def test_wrong_rates_and_orders(self):
        crossing = crossing_of(2)
        for rates, place in (([], 0), ([None], 1), ([None] * 3, 2), ((Rate(1, 1, 1),) * 5, 2)):
            self.assert_fails(BadRates, {"place": place}, least_enough, crossing, rates, [7])
        for order, place in (([], 0), ([1], 1), ([0, 0], 1), ([2, 0], 0), ([0, 1, 1], 2)):
            self.assert_fails(BadOrder, {"place": place}, least_enough, crossing, [None, None], order)

    def test_no_length_is_enough_for_a_load_above_one(self):
        over = 0
        for crossing, rates, order in some_rates(2, 60):
            for first, second, _, _ in crossing.rivals:
                num, den = load(rates, [first, second])
                if num > den:
                    over += 1
                    self.assertIsNone(least_enough(crossing, rates, order).length)
        self.assertGreater(over, 10)
        tight = least_enough(crossing_of(2, (0, 1, 0, 0)), [Rate(1, 1, 2), Rate(1, 3, 5)], [0, 1])
        self.assertIsNone(tight.length)


class LoadTest(Case):
    def test_load(self):
        rng = random.Random(21)
        for _ in range(200):
            rates = [rng.choice(ALL_RATES + [None] * 10) for _ in range(rng.randint(1, 6))]
            streams = rng.sample(range(len(rates)), rng.randint(0, len(rates)))
            total = sum((Fraction(rates[s].num, rates[s].den) for s in streams if rates[s]), Fraction(0))
            self.assertEqual(load(rates, streams), (total.numerator, total.denominator))

    def test_edges(self):
        self.assertEqual(load([], []), (0, 1))
        self.assertEqual(load([None, Rate(1, 2, 4)], (0,)), (0, 1))
        self.assertEqual(load([None, Rate(1, 2, 4)], [1, 0]), (1, 2))
        self.assertEqual(load((Rate(1, 1, 2), Rate(3, 3, 6)), (0, 1)), (1, 1))
        self.assertEqual(load([Rate(1, 6, 6)] * 3, [2, 1, 0]), (3, 1))
