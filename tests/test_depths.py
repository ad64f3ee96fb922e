"""The greatest queue of a rate: point [34], and its facts in point [35]."""

from crossinglights.beats import Beats
from crossinglights.depths import Course, Depth, Growth, depth
from crossinglights.errors import BadBeats
from crossinglights.rates import Rate
from tests.support import (ALL_RATES, Case, all_beats, credit_after, grows, is_let, reached, simulated,
                           some_flows)


def queue_states(rate, green):
    """All states (beat, credit, queue) before a beat of a run, if the queue does not grow for ever."""
    full = rate.burst * rate.den + rate.num - 1

    def following(state):
        beat, credit, queue = state
        for came in (0, 1):
            if came == 0 or credit >= rate.den:
                later = queue + came
                if later and beat in list(green):
                    later -= 1
                yield ((beat + 1) % green.length, min(full, credit - came * rate.den + rate.num), later)

    return reached([(beat, full, 0) for beat in range(green.length)], following)


def length_after(green, begin, row):
    """The number in the queue after a row."""
    return simulated(green, begin, row)[-1][0] if row else 0


class DepthTest(Case):
    """Queues that have a greatest number."""

    def check_depth(self, rate, green):
        found = depth(rate, green)
        self.assertIs(type(found), Depth)
        self.assertEqual((found.rate, found.green), (rate, green))
        states = queue_states(rate, green)
        self.assertEqual(found.number, max(queue for _, _, queue in states))
        most = {}
        for beat, credit, queue in states:
            most[beat, credit] = max(queue, most.get((beat, credit), 0))
        for beat in range(green.length):
            for credit in range(-1, rate.full + 2):
                self.assertEqual(found.height(beat, credit), most.get((beat, credit)))
        self.assertIs(type(found.row), list)
        self.assertIn(found.begin, range(green.length))
        self.assertTrue(is_let(rate, found.row))
        self.assertEqual(length_after(green, found.begin, found.row), found.number)

    def test_all_rates_and_short_rounds(self):
        checked = 0
        for rate in ALL_RATES:
            for length in range(1, 4):
                for green in all_beats(length):
                    if not grows(rate, green):
                        checked += 1
                        self.check_depth(rate, green)
        self.assertGreater(checked, 300)

    def test_long_rounds(self):
        checked = 0
        for rate, green in some_flows(34, 60, (7, 9, 11, 12)):
            if not grows(rate, green):
                checked += 1
                self.check_depth(rate, green)
        self.assertGreater(checked, 20)

    def test_heights_of_any_beat(self):
        found = depth(Rate(3, 1, 5), Beats(4, [0, 1]))
        for beat in range(4):
            for turn in (-10 ** 8, -1, 1, 10 ** 8):
                self.assertEqual(found.height(beat + 4 * turn, 5), found.height(beat, 5))
        self.assertIsNone(found.height(0, 10 ** 9))
        self.assertIsNone(found.height(0, -10 ** 9))

    def test_a_depth_of_zero(self):
        for rate, green in ((Rate(1, 1, 1), Beats(1, [0])), (Rate(3, 6, 6), Beats.every(12))):
            found = depth(rate, green)
            self.assertEqual((found.number, length_after(green, found.begin, found.row)), (0, 0))
            self.assertTrue(is_let(rate, found.row))

    def test_exactly_enough_green_beats_and_one_fewer(self):
        self.assertEqual(depth(Rate(1, 1, 2), Beats(12, [0, 1, 2, 3, 4, 5])).number, 3)
        self.assertIs(type(depth(Rate(1, 1, 2), Beats(12, [0, 1, 2, 3, 4]))), Growth)
        self.assertIs(type(depth(Rate(1, 5, 6), Beats(6, [0, 1, 2, 3, 4]))), Depth)
        self.assertIs(type(depth(Rate(1, 5, 6), Beats(7, [0, 1, 2, 3, 4]))), Growth)

    def test_a_row_does_not_begin_with_more_credit_than_full(self):
        # Three vehicles come at once, and the fourth one a whole round later.
        found = depth(Rate(3, 1, 6), Beats(6, [0]))
        self.assertEqual(found.number, max(queue for _, _, queue in queue_states(found.rate, found.green)))


class GrowthTest(Case):
    """Queues that grow for ever."""

    def check_growth(self, rate, green):
        found = depth(rate, green)
        self.assertIs(type(found), Growth)
        self.assertEqual((found.rate, found.green), (rate, green))
        self.assertIn(found.begin, range(green.length))
        self.assertEqual((type(found.lead), type(found.loop)), (list, list))
        self.assertTrue(found.loop and len(found.loop) % green.length == 0)
        self.assertLessEqual(set(found.lead + found.loop), {0, 1})
        credits, numbers = [], []
        for k in range(5):
            row = found.lead + found.loop * k
            self.assertTrue(is_let(rate, row))
            credits.append(credit_after(rate, row))
            numbers.append(length_after(green, found.begin, row))
        self.assertEqual(len(set(credits)), 1)
        self.assertEqual(numbers, sorted(set(numbers)))

    def test_all_rates_and_short_rounds(self):
        checked = 0
        for rate in ALL_RATES:
            for length in range(1, 5):
                for green in all_beats(length):
                    if grows(rate, green):
                        checked += 1
                        self.check_growth(rate, green)
        self.assertGreater(checked, 300)

    def test_long_rounds(self):
        for rate, green in some_flows(35, 100, (8, 11, 12)):
            if grows(rate, green):
                self.check_growth(rate, green)
        self.check_growth(Rate(3, 6, 6), Beats(12, range(11)))
        self.check_growth(Rate(1, 1, 6), Beats.none(12))


class CourseTest(Case):
    def test_told(self):
        self.assertEqual(Course(Rate(3, 5, 6), Beats(60, [1, 2])).told(), "rate 3 5/6, 2 of 60 beats:")
        self.assertEqual(Course(Rate(1, 1, 1), Beats(1, [])).told(), "rate 1 1/1, 0 of 1 beats:")
        self.assertEqual(depth(Rate(2, 1, 3), Beats(3, [0])).told(), "rate 2 1/3, 1 of 3 beats: depth 2")
        found = depth(Rate(2, 1, 3), Beats(4, [0]))
        self.assertEqual(found.told(), f"rate 2 1/3, 1 of 4 beats: growing by loop of {len(found.loop)} beats")

    def test_classes(self):
        self.assertEqual((Depth.__bases__, Growth.__bases__), ((Course,), (Course,)))
        course = Course(Rate(1, 1, 2), Beats(13, [4]))
        self.assertEqual((course.rate, course.green), (Rate(1, 1, 2), Beats(13, [4])))
        for kind in (Course, Depth, Growth):
            self.assertIn("told", vars(kind))
        self.assertNotEqual(depth(Rate(1, 1, 2), Beats(2, [0])), depth(Rate(1, 1, 2), Beats(2, [0])))

    def test_rounds_that_are_too_long(self):
        self.assertEqual(depth(Rate(1, 1, 1), Beats.every(12)).number, 0)
        for length in (13, 60):
            self.assert_fails(BadBeats, {}, depth, Rate(1, 1, 1), Beats.every(length))
            self.assert_fails(BadBeats, {}, depth, Rate(1, 1, 1), Beats.none(length))

    def test_example_of_the_interface(self):
        green = Beats(4, [0, 1])
        found = [depth(Rate(1, 1, 2), green).told(), depth(Rate(1, 1, 2), green).height(2, 2)]
        self.assertEqual(found, ["rate 1 1/2, 2 of 4 beats: depth 1", 0])
