"""Sets of beats: points [4] to [9]."""

import operator
import random

from crossinglights.beats import Beats
from crossinglights.errors import BadBeats
from tests.support import Case, all_beats, random_beats

FAR = 10 ** 9
PAIR_OPERATORS = (operator.or_, operator.and_, operator.xor, operator.add, operator.sub, Beats.within)


def some_beats(count=150, lengths=(1, 2, 3, 5, 6, 12, 24, 59, 60)):
    """Pairs of sets of rounds of some lengths."""
    rng = random.Random(4)
    for _ in range(count):
        length = rng.choice(lengths)
        yield random_beats(rng, length), random_beats(rng, length)


class MakingTest(Case):
    """Point [4]."""

    def test_members_are_taken_modulo_the_length(self):
        self.assertEqual(list(Beats(6, [0, 6, -1, 11, 8, -FAR, FAR])), [0, 2, 4, 5])
        self.assertEqual(list(Beats(6, (7, 1, 1, 13))), [1])
        self.assertEqual(list(Beats(1, [5, -7])), [0])
        self.assertEqual(list(Beats(60, [59, 60, -1])), [0, 59])

    def test_length(self):
        self.assertEqual(Beats(1, []).length, 1)
        self.assertEqual(Beats(60, [3]).length, 60)
        for length in (0, -1, 61, FAR, -FAR):
            self.assert_fails(BadBeats, {}, Beats, length, [0])

    def test_what_was_passed_is_copied(self):
        members = [8, 1]
        beats = Beats(6, members)
        self.assertEqual(members, [8, 1])
        members.append(3)
        members[0] = 5
        self.assertEqual(list(beats), [1, 2])


class LookingTest(Case):
    """Point [5]."""

    def test_len_and_iteration_and_bool(self):
        for a, _ in some_beats():
            self.assertEqual(len(a), len(list(a)))
            self.assertEqual(list(a), sorted(set(a)))
            self.assertTrue(all(0 <= beat < a.length for beat in a))
            self.assertIs(bool(a), len(a) > 0)
        self.assertEqual(list(Beats(9, [8, 3, 0])), [0, 3, 8])

    def test_in(self):
        beats = Beats(7, [0, 6])
        for number in (0, 6, -1, 7, 13, -FAR * 7, FAR * 7 - 1):
            self.assertIs(number in beats, True, number)
        for number in (1, 5, -2, 8, FAR * 7 + 1):
            self.assertIs(number in beats, False, number)

    def test_equality(self):
        self.assertEqual(Beats(6, [0, 1]), Beats(6, (7, 6)))
        self.assertNotEqual(Beats(6, [0, 1]), Beats(7, [0, 1]))
        self.assertNotEqual(Beats(6, [0, 1]), Beats(6, [0, 2]))
        self.assertNotEqual(Beats(6, []), Beats(5, []))
        self.assertNotEqual(Beats(6, [0]), [0])
        self.assertFalse(Beats(6, [0, 1]) != Beats(6, [0, 1]))

    def test_within(self):
        for a, b in some_beats():
            self.assertIs(a.within(b), set(a) <= set(b))
            self.assertIs(a.within(a | b), True)
        self.assertIs(Beats(5, []).within(Beats(5, [])), True)


class OperatorsTest(Case):
    """Point [6]."""

    def assert_beats(self, got, length, members):
        self.assertEqual((got.length, list(got)), (length, sorted(members)))

    def test_operators_of_two_sets(self):
        for a, b in some_beats():
            t = a.length
            self.assert_beats(a | b, t, set(a) | set(b))
            self.assert_beats(a & b, t, set(a) & set(b))
            self.assert_beats(a ^ b, t, set(a) ^ set(b))
            self.assert_beats(a + b, t, {(x + y) % t for x in a for y in b})
            self.assert_beats(a - b, t, {(x - y) % t for x in a for y in b})

    def test_operators_of_one_set(self):
        for a, _ in some_beats():
            t = a.length
            self.assert_beats(~a, t, set(range(t)) - set(a))
            self.assert_beats(-a, t, {-x % t for x in a})

    def test_shifts(self):
        for a, _ in some_beats(40):
            t = a.length
            for k in (0, 1, -1, t, 2 * t + 3, FAR, -FAR):
                self.assert_beats(a >> k, t, {(x + k) % t for x in a})
                self.assert_beats(a << k, t, {(x - k) % t for x in a})

    def test_sums_of_copies(self):
        for a, _ in some_beats(25):
            total = Beats(a.length, [0])
            for k in range(12):
                self.assertEqual(a * k, total)
                self.assertEqual(k * a, total)
                total = total + a
        self.assertEqual(list(Beats(7, []) * 0), [0])
        self.assertEqual(list(Beats(7, []) * 1), [])
        self.assertEqual(list(Beats(60, [1]) * 99), [39])
        self.assertEqual(list(99 * Beats(60, [1])), [39])

    def test_modulo(self):
        for a, _ in some_beats(60):
            for k in range(1, a.length + 1):
                if a.length % k == 0:
                    self.assert_beats(a % k, k, {x % k for x in a})

    def test_unfolded(self):
        for a, _ in some_beats(60):
            for k in range(1, 60 // a.length + 1):
                long = a.unfolded(k)
                self.assert_beats(long, a.length * k, [x for x in range(a.length * k) if x in a])
                self.assertEqual(long % a.length, a)

    def test_wrong_numbers(self):
        a = Beats(12, [1, 2])
        for k in (-1, 100, FAR, -FAR):
            self.assert_fails(BadBeats, {}, operator.mul, a, k)
            self.assert_fails(BadBeats, {}, operator.mul, k, a)
        for k in (0, -1, -12, 5, 8, 13, 24, FAR):
            self.assert_fails(BadBeats, {}, operator.mod, a, k)
        for k in (0, -1, 6, FAR, -FAR):
            self.assert_fails(BadBeats, {}, a.unfolded, k)
        self.assertEqual(a.unfolded(5).length, 60)
        self.assertEqual(Beats(1, [0]).unfolded(60), Beats.every(60))

    def test_other_lengths(self):
        for call in PAIR_OPERATORS:
            self.assert_fails(BadBeats, {}, call, Beats(6, [0]), Beats(12, [0]))
            self.assert_fails(BadBeats, {}, call, Beats(6, []), Beats(5, []))

    def test_nothing_changes(self):
        a, b = Beats(6, [0, 1]), Beats(6, [3, 5])
        for call in PAIR_OPERATORS:
            call(a, b)
        for made in (~a, -a, a >> 1, a << 1, a * 3, 3 * a, a % 3, a.unfolded(2)):
            self.assertIsInstance(made, Beats)
        kept = a
        a += b
        self.assertEqual([list(kept), list(b), list(a)], [[0, 1], [3, 5], [0, 3, 4, 5]])


class StaticTest(Case):
    """Point [7]."""

    def test_every_and_none(self):
        for length in (1, 2, 7, 60):
            self.assertEqual(list(Beats.every(length)), list(range(length)))
            self.assertEqual(Beats.none(length), Beats(length, []))
            self.assertEqual(~Beats.every(length), Beats.none(length))

    def test_window(self):
        for length in (1, 4, 7, 60):
            for low in (-9, -1, 0, 2, 5):
                for high in range(low - 3, low + 2 * length + 2):
                    wanted = Beats(length, range(low, high + 1))
                    self.assertEqual(Beats.window(length, low, high), wanted)

    def test_windows_that_are_far(self):
        self.assertEqual(Beats.window(60, -FAR, FAR), Beats.every(60))
        self.assertEqual(Beats.window(60, FAR, -FAR), Beats.none(60))
        self.assertEqual(list(Beats.window(7, FAR - 1, FAR)), sorted([(FAR - 1) % 7, FAR % 7]))
        self.assertEqual(list(Beats.window(7, -FAR, -FAR)), [-FAR % 7])

    def test_wrong_lengths(self):
        for length in (0, -1, -FAR, 61, FAR):
            self.assert_fails(BadBeats, {}, Beats.every, length)
            self.assert_fails(BadBeats, {}, Beats.none, length)
            self.assert_fails(BadBeats, {}, Beats.window, length, 0, FAR)
            self.assert_fails(BadBeats, {}, Beats.window, length, 1, 0)


def is_run(beats, run):
    """The words of point [8] for a set in which not every beat is."""
    begin, count = run
    inside = all(begin + k in beats for k in range(count))
    return count >= 1 and inside and begin - 1 not in beats and begin + count not in beats


class RunsTest(Case):
    """Point [8]."""

    def test_runs(self):
        for length in (1, 2, 3, 5, 8):
            for beats in all_beats(length):
                if 0 < len(beats) < length:
                    wanted = [(b, c) for b in range(length) for c in range(1, length) if is_run(beats, (b, c))]
                    self.assertEqual(beats.runs(), wanted)
                    self.assertEqual(sum(count for _, count in wanted), len(beats))

    def test_edges_of_runs(self):
        self.assertEqual(Beats(6, [5, 0, 1, 3]).runs(), [(3, 1), (5, 3)])
        self.assertEqual(Beats.every(60).runs(), [(0, 60)])
        self.assertEqual(Beats.every(1).runs(), [(0, 1)])
        self.assertEqual(Beats.none(60).runs(), [])
        self.assertEqual(Beats.none(1).runs(), [])

    def test_a_returned_list_is_new(self):
        beats = Beats(6, [1, 2])
        beats.runs().append((0, 6))
        self.assertEqual(beats.runs(), [(1, 2)])

    def test_step(self):
        for length in (1, 2, 4, 6, 8):
            for beats in all_beats(length):
                step = beats.step()
                self.assertEqual(beats >> step, beats)
                self.assertEqual(length % step, 0)
                self.assertTrue(all(beats >> k != beats for k in range(1, step)))
        self.assertEqual([Beats.every(60).step(), Beats.none(60).step(), Beats(60, [7]).step()], [1, 1, 60])


class FactsTest(Case):
    """Point [9]."""

    def test_sums_have_many_beats(self):
        for length in (1, 4, 5, 6):
            for a in all_beats(length):
                for b in all_beats(length):
                    if a and b:
                        self.check_sum(a, b)

    def test_sums_have_many_beats_in_long_rounds(self):
        for a, b in some_beats(300):
            if a and b:
                self.check_sum(a, b)

    def check_sum(self, a, b):
        total = a + b
        h = total.step()
        multiples = Beats(a.length, range(0, a.length, h))
        self.assertGreaterEqual(len(total), len(a + multiples) + len(b + multiples) - len(multiples))
        least = min(a.length, len(a) + len(b) - 1)
        if a.length in (2, 3, 5, 59):
            self.assertGreaterEqual(len(total), least)
        if len(a.runs()) == 1 and len(b.runs()) == 1:
            self.assertEqual(len(total), least)

    def test_sums_of_single_runs(self):
        for length in (1, 6, 60):
            for x in (1, length // 2 or 1, length):
                for y in (1, length // 3 or 1, length):
                    a = Beats.window(length, 4, 3 + x)
                    b = Beats.window(length, -1, y - 2)
                    self.assertEqual(len(a + b), min(length, x + y - 1))


class ExampleTest(Case):
    def test_example_of_the_interface(self):
        a = Beats(6, [0, 1])
        b = Beats(6, [3, 6])
        found = [list(a + b), (a + b).step(), list(~a), list(b >> 2), list(b % 3), a.runs()]
        self.assertEqual(found, [[0, 1, 3, 4], 3, [2, 3, 4, 5], [2, 5], [0], [(0, 2)]])
