"""The queue behind another one: point [37]."""

import random

from crossinglights.beats import Beats
from crossinglights.behind import depth_behind, good_shifts
from crossinglights.depths import depth
from crossinglights.errors import BadBeats, BadNumber, Growing
from crossinglights.rates import Rate
from tests.support import ALL_RATES, Case, all_beats, grows, is_let, reached, simulated


def wanted_behind(rate, first, second, shift):
    """The greatest number in the second queue over all runs; both queues must not grow for ever."""
    length, full = first.length, rate.burst * rate.den + rate.num - 1

    def following(state):
        beat, credit, front, behind = state
        for came in (0, 1):
            if came == 0 or credit >= rate.den:
                queue, left = front + came, 0
                if queue and beat in list(first):
                    queue, left = queue - 1, 1
                later = behind + left
                if later and (beat - shift) % length in list(second):
                    later -= 1
                yield ((beat + 1) % length, min(full, credit - came * rate.den + rate.num), queue, later)

    return max(state[3] for state in reached([(beat, full, 0, 0) for beat in range(length)], following))


def number_behind(first, second, shift, begin, row):
    """The second queue after the beat in which what left the first one in the last beat would come."""
    leaving = [left for _, left in simulated(first, begin, row)]
    return simulated(second, begin - shift, leaving)[-1][0] if row else 0


class DepthBehindTest(Case):
    def check_behind(self, rate, first, second, shift):
        found = depth_behind(rate, first, second, shift)
        if grows(rate, second):
            self.assertIsNone(found)
            return
        number, begin, row = found
        self.assertEqual(number, wanted_behind(rate, first, second, shift))
        self.assertIn(begin, range(first.length))
        self.assertIs(type(row), list)
        self.assertTrue(is_let(rate, row))
        self.assertEqual(number_behind(first, second, shift, begin, row), number)
        if number == 0:
            self.assertEqual(row, [])

    def test_short_rounds(self):
        rng = random.Random(37)
        for length in (1, 2, 3):
            for first in all_beats(length):
                for second in all_beats(length):
                    for rate in rng.sample(ALL_RATES, 12):
                        if not grows(rate, first):
                            self.check_behind(rate, first, second, rng.randint(0, length - 1))

    def test_longer_rounds(self):
        rng = random.Random(38)
        checked = 0
        while checked < 50:
            length = rng.choice((4, 5, 6))
            rate = rng.choice(ALL_RATES)
            first, second = (Beats(length, rng.sample(range(length), rng.randint(1, length))) for _ in "ab")
            if not grows(rate, first) and not grows(rate, second):
                checked += 1
                self.check_behind(rate, first, second, rng.randint(-20, 20))

    def test_shifts_far_away(self):
        rate, first, second = Rate(2, 1, 3), Beats(6, [0, 1, 2]), Beats(6, [2, 5])
        numbers = [depth_behind(rate, first, second, shift)[0] for shift in range(6)]
        self.assertGreater(len(set(numbers)), 1)
        for shift in range(6):
            for turn in (-10 ** 8, -1, 1, 10 ** 8):
                self.check_behind(rate, first, second, shift + 6 * turn)
                self.assertEqual(depth_behind(rate, first, second, shift + 6 * turn)[0], numbers[shift])

    def test_the_direction_of_the_shift(self):
        # What leaves in the beat 2 comes in the beat that the second queue numbers 2 - 2 = 0.
        self.assertEqual(depth_behind(Rate(1, 1, 4), Beats(4, [2]), Beats(4, [0]), 2), (0, 0, []))
        self.assertEqual(depth_behind(Rate(1, 1, 4), Beats(4, [2]), Beats(4, [0]), -2), (0, 0, []))
        self.assertEqual(depth_behind(Rate(1, 1, 4), Beats(4, [2]), Beats(4, [1]), 1), (0, 0, []))
        self.assertEqual(depth_behind(Rate(1, 1, 4), Beats(4, [2]), Beats(4, [1]), 3)[0], 1)

    def test_both_greens_alike(self):
        for rate in ALL_RATES[::5]:
            green = Beats.every(3)
            self.assertEqual(depth_behind(rate, green, green, 0), (0, 0, []))
        green = Beats(4, [0, 3])
        self.assertEqual(depth_behind(Rate(3, 1, 2), green, green, 0)[0], 0)
        self.check_behind(Rate(3, 1, 2), green, green, 1)

    def test_rounds_of_twelve_beats(self):
        rng = random.Random(40)
        for _ in range(10):
            rate = rng.choice(ALL_RATES)
            first, second = (Beats(12, rng.sample(range(12), rng.randint(6, 12))) for _ in "ab")
            if not grows(rate, first):
                self.check_behind(rate, first, second, rng.randint(0, 11))

    def test_no_greatest_number(self):
        self.assertIsNone(depth_behind(Rate(1, 1, 2), Beats(4, [0, 1]), Beats(4, [0]), 0))
        self.assertIsNone(depth_behind(Rate(1, 1, 6), Beats(12, [0, 1]), Beats.none(12), 5))
        self.assertIsNotNone(depth_behind(Rate(1, 1, 2), Beats(4, [0, 1]), Beats(4, [0, 2]), 0))

    def test_wrong_arguments(self):
        rate, good = Rate(1, 1, 2), Beats(4, [0, 1])
        growing = Beats(4, [0])
        for first, second in ((good, Beats(8, [0])), (Beats(2, [0]), good), (Beats.every(13), Beats.every(13)),
                              (Beats.every(13), good), (good, Beats.every(13)), (growing, Beats(3, []))):
            self.assert_fails(BadBeats, {}, depth_behind, rate, first, second, 0)
            self.assert_fails(BadBeats, {}, good_shifts, rate, first, second, -1)
        self.assert_fails(Growing, {}, depth_behind, rate, growing, growing, 0)
        self.assert_fails(Growing, {}, good_shifts, rate, growing, good, 0)
        for capacity in (-1, -10 ** 9):
            self.assert_fails(BadNumber, {"number": capacity}, good_shifts, rate, growing, good, capacity)
            self.assert_fails(BadNumber, {"number": capacity}, good_shifts, rate, good, good, capacity)

    def test_each_answer_is_new(self):
        args = (Rate(1, 1, 4), Beats(4, [2]), Beats(4, [1]))
        for shift in (1, 3):
            row = list(depth_behind(*args, shift)[2])
            depth_behind(*args, shift)[2].append(7)
            self.assertEqual(depth_behind(*args, shift)[2], row)

    def test_growing_is_a_growth_of_the_first_depth(self):
        rate = Rate(1, 2, 3)
        for first in all_beats(4):
            if hasattr(depth(rate, first), "loop"):
                self.assert_fails(Growing, {}, depth_behind, rate, first, first, 0)
            else:
                self.assertIsNotNone(depth_behind(rate, first, first, 0))


class GoodShiftsTest(Case):
    def test_good_shifts(self):
        rng = random.Random(41)
        some, none, every = 0, 0, 0
        for _ in range(400):
            length = rng.choice((1, 2, 3, 4, 5))
            rate = rng.choice(ALL_RATES)
            first, second = (Beats(length, rng.sample(range(length), rng.randint(1, length))) for _ in "ab")
            if not grows(rate, first):
                capacity = rng.choice((0, 1, 2, 10 ** 9))
                wanted = [] if grows(rate, second) else [
                    shift for shift in range(length) if wanted_behind(rate, first, second, shift) <= capacity]
                found = good_shifts(rate, first, second, capacity)
                self.assertEqual(found, Beats(length, wanted))
                some += 0 < len(found) < length
                none += len(found) == 0
                every += len(found) == length
        self.assertTrue(some > 3 and none > 3 and every > 3)

    def test_capacities(self):
        rate, first, second = Rate(2, 1, 3), Beats(6, [0, 1, 2]), Beats(6, [2, 5])
        numbers = [depth_behind(rate, first, second, shift)[0] for shift in range(6)]
        for capacity in range(5):
            wanted = [shift for shift in range(6) if numbers[shift] <= capacity]
            self.assertEqual(good_shifts(rate, first, second, capacity), Beats(6, wanted))
        self.assertEqual(good_shifts(Rate(1, 1, 2), Beats(4, [0, 1]), Beats(4, [0]), 10 ** 9), Beats.none(4))
        self.assertEqual(good_shifts(Rate(1, 1, 4), Beats(4, [2]), Beats(4, [0]), 0), Beats(4, [2]))
