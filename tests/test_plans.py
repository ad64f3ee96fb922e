"""Plans: points [15] and [16]."""

import itertools
import random

from crossinglights.beats import Beats
from crossinglights.errors import BadPlan, UnknownStream
from crossinglights.plans import Plan
from tests.support import Case, crossing_of, random_crossing


def kept(crossing, length, begins, greens):
    """Return the first rival that is not kept, by walking the round beat by beat, or None."""
    for number, (first, second, forth, back) in enumerate(crossing.rivals):
        for ended, coming, span in ((first, second, forth), (second, first, back)):
            end = begins[ended] + greens[ended]
            taken = {beat % length for beat in range(begins[ended], end + span)}
            if begins[coming] in taken or greens[ended] + span > length:
                return number
    return None


def small_plans():
    """All begins and greens of a crossing in a short round."""
    crossing = crossing_of(3, (0, 1, 1, 2), (2, 1, 0, 1))
    length = 7
    for begins in itertools.product(range(length), repeat=3):
        for greens in itertools.product((1, 2, 4), repeat=3):
            yield crossing, length, begins, greens


class MakingTest(Case):
    """Point [15]."""

    def assert_bad(self, part, place, *args):
        self.assert_fails(BadPlan, {"part": part, "place": place}, Plan, *args)

    def test_rivals_are_kept(self):
        good = 0
        for args in small_plans():
            wrong = kept(*args)
            if wrong is None:
                good += 1
                self.assertEqual(Plan(*args).begins, args[2])
            else:
                self.assert_bad("rival", wrong, *args)
        self.assertGreater(good, 20)

    def test_as_tight_as_the_spans_allow(self):
        crossing = crossing_of(2, (0, 1, 2, 3))
        self.assertEqual(Plan(crossing, 10, [0, 4], [2, 3]).begins, (0, 4))
        self.assertEqual(Plan(crossing, 10, [8, 2], [2, 3]).begins, (8, 2))
        self.assert_bad("rival", 0, crossing, 10, [0, 3], [2, 3])
        self.assert_bad("rival", 0, crossing, 10, [0, 5], [2, 3])
        self.assert_bad("rival", 0, crossing, 9, [0, 4], [2, 3])
        self.assert_bad("rival", 0, crossing, 10, [0, 4], [3, 3])
        self.assert_bad("rival", 0, crossing, 10, [0, 4], [2, 4])

    def test_spans_zero(self):
        crossing = crossing_of(2, (0, 1, 0, 0))
        self.assertEqual(Plan(crossing, 60, [59, 29], [30, 30]).greens, (30, 30))
        self.assert_bad("rival", 0, crossing, 60, [59, 29], [31, 30])
        self.assert_bad("rival", 0, crossing, 2, [1, 1], [1, 1])

    def test_spans_nine(self):
        crossing = crossing_of(2, (0, 1, 9, 9))
        self.assertEqual(Plan(crossing, 20, [0, 10], [1, 1]).length, 20)
        for other in (9, 11):
            self.assert_bad("rival", 0, crossing, 20, [0, other], [1, 1])
        self.assert_bad("rival", 0, crossing, 19, [0, 10], [1, 1])

    def test_the_first_rival_that_is_not_kept(self):
        crossing = crossing_of(3, (0, 1, 0, 0), (1, 2, 0, 0), (0, 2, 0, 0))
        self.assert_bad("rival", 1, crossing, 6, [0, 2, 2], [1, 1, 1])
        self.assert_bad("rival", 0, crossing, 6, [2, 2, 2], [1, 1, 1])

    def test_lengths(self):
        crossing = crossing_of(1)
        self.assertEqual(Plan(crossing, 1, [0], [1]).length, 1)
        self.assertEqual(Plan(crossing, 60, [59], [60]).length, 60)
        for length in (0, -1, 61, 10 ** 9):
            self.assert_bad("length", 0, crossing, length, [99], [0])

    def test_begins(self):
        crossing = crossing_of(3)
        for wrong in (-1, 8, 10 ** 9):
            self.assert_bad("begins", 1, crossing, 8, [0, wrong, wrong], [0, 0, 0])
        self.assert_bad("begins", 0, crossing, 8, [], [0])
        self.assert_bad("begins", 2, crossing, 8, [0, 7], [9])
        self.assert_bad("begins", 3, crossing, 8, (0, 0, 0, 0), [9])
        self.assert_bad("begins", 0, crossing, 8, (8, 0), [9])
        self.assert_bad("begins", 1, crossing, 8, (0, -1, 0, 0), [9])

    def test_greens(self):
        crossing = crossing_of(3)
        for wrong in (-1, 0, 9, 10 ** 9):
            self.assert_bad("greens", 1, crossing, 8, [0, 0, 0], [1, wrong, wrong])
        self.assert_bad("greens", 0, crossing, 8, [0, 0, 0], [])
        self.assert_bad("greens", 2, crossing, 8, [0, 0, 0], (8, 1))
        self.assert_bad("greens", 3, crossing, 8, [0, 0, 0], [8, 1, 1, 1])
        self.assert_bad("greens", 0, crossing_of(2, (0, 1, 0, 0)), 8, [0, 0], [9, 1])

    def test_attributes_are_copies(self):
        begins, greens = [0, 3], [2, 1]
        plan = Plan(crossing_of(2), 5, begins, greens)
        begins[0] = 4
        greens.append(3)
        self.assertEqual((plan.length, plan.begins, plan.greens), (5, (0, 3), (2, 1)))
        self.assertEqual(plan.crossing, crossing_of(2))


def random_plans(seed, count=60):
    """Plans of random crossings, with rivals that are kept."""
    rng = random.Random(seed)
    while count > 0:
        crossing = random_crossing(rng, rng.randint(1, 6), 3)
        length = rng.randint(1, 60)
        begins = [rng.randrange(length) for _ in crossing.streams]
        greens = [rng.randint(1, max(1, length // 3)) for _ in crossing.streams]
        if kept(crossing, length, begins, greens) is None:
            count -= 1
            yield Plan(crossing, length, begins, greens)


class LookingTest(Case):
    """Point [16]."""

    def test_green_beats_and_shown(self):
        for plan in random_plans(1):
            count = len(plan.begins)
            for s in range(count):
                wanted = {(plan.begins[s] + k) % plan.length for k in range(plan.greens[s])}
                self.assertEqual(plan.green_beats(s), Beats(plan.length, list(wanted)))
            for beat in (0, plan.length - 1, plan.length, -1, 10 ** 9, -10 ** 9, plan.begins[0]):
                wanted = tuple(s for s in range(count) if beat % plan.length in plan.green_beats(s))
                self.assertEqual(plan.shown(beat), wanted)

    def test_green_all_the_time(self):
        plan = Plan(crossing_of(2), 60, [59, 0], [60, 1])
        self.assertEqual(plan.green_beats(0), Beats.every(60))
        self.assertEqual([plan.shown(0), plan.shown(1), plan.shown(60)], [(0, 1), (0,), (0, 1)])
        self.assertEqual([plan.gap(0, 0), plan.gap(1, 1)], [0, 59])

    def test_gap(self):
        for plan in random_plans(2):
            for a, b in itertools.product(range(len(plan.begins)), repeat=2):
                beats = 0
                while (plan.begins[a] + plan.greens[a] + beats - plan.begins[b]) % plan.length != 0:
                    beats += 1
                self.assertEqual(plan.gap(a, b), beats)
                span = plan.crossing.span(a, b)
                if span is not None:
                    self.assertGreaterEqual(plan.gap(a, b), span)

    def test_unknown_streams(self):
        plan = Plan(crossing_of(2), 5, [0, 0], [1, 1])
        for stream in (2, -1, 10 ** 9):
            self.assert_fails(UnknownStream, {"number": stream}, plan.green_beats, stream)
            self.assert_fails(UnknownStream, {"number": stream}, plan.gap, stream, 7)
            self.assert_fails(UnknownStream, {"number": stream}, plan.gap, 0, stream)

    def test_turned(self):
        for plan in random_plans(3, 30):
            for beats in (0, 1, -1, plan.length, 10 ** 9, -10 ** 9):
                turned = plan.turned(beats)
                self.assertEqual(turned.begins, tuple((x + beats) % plan.length for x in plan.begins))
                self.assertEqual(turned.greens, plan.greens)
                self.assertEqual(turned.turned(-beats), plan)
                self.assertEqual(turned.shown(beats + 3), plan.shown(3))

    def test_equality(self):
        plan = Plan(crossing_of(2, (0, 1, 1, 1)), 8, [0, 3], [2, 2])
        self.assertEqual(plan, Plan(crossing_of(2, (1, 0, 1, 1)), 8, (0, 3), (2, 2)))
        for other in (Plan(crossing_of(2, (0, 1, 1, 0)), 8, [0, 3], [2, 2]), Plan(plan.crossing, 9, [0, 3], [2, 2]),
                      Plan(plan.crossing, 8, [0, 4], [2, 2]), Plan(plan.crossing, 8, [0, 3], [2, 1])):
            self.assertNotEqual(plan, other)
        self.assertNotEqual(plan, (8, (0, 3), (2, 2)))

    def test_plans_of_greater_lengths(self):
        for plan in random_plans(4, 20):
            for length in range(plan.length, 61):
                longer = Plan(plan.crossing, length, plan.begins, plan.greens)
                self.assertEqual(longer.length, length)
