"""The lights of a book: points [42] to [44]."""

import random

from crossinglights.books import Book
from crossinglights.crossings import Crossing
from crossinglights.errors import BadLights, UnknownStream
from crossinglights.lights import next_lights, quiet, shown
from crossinglights.openlights import successors
from crossinglights.phases import Phase
from tests.support import (Case, crossing_of, is_shown, parts_of_streams, proper_lights, random_books, wanted_lights,
                           wanted_quiet)


def example_book():
    """The book of the interface."""
    crossing = Crossing(["a", "b"], [(0, 1, 1, 1)])
    return Book(crossing, 5, Phase([0], pause=1), [Phase([1], most=2, pause=1, holds=[1])])


class ShownTest(Case):
    """Point [42]."""

    def test_shown(self):
        for book in random_books(42, 60):
            for lights in proper_lights(book):
                wanted = tuple(s for s in range(len(book.crossing)) if is_shown(book, lights, s))
                self.assertEqual(shown(book, lights), wanted)

    def test_lights_just_outside_of_what_is_proper(self):
        book = Book(crossing_of(2), 7, Phase([0], pause=1, least=2), [Phase([1], most=2, pause=1), Phase([])])
        good = [(0, 0, 0), (6, 0, -1), (0, 1, -1), (6, 1, 1), (3, 2, 0)]
        for lights in good:
            shown(book, lights), next_lights(book, lights), successors(book, lights)
        wrong = [(-1, 0, 0), (7, 0, 0), (0, -1, 0), (0, 3, 0), (0, 0, 1), (0, 0, -2), (0, 1, 2), (0, 1, -2), (0, 2, 1),
                 (0, 2, -1), (10 ** 9, 0, 0), (0, 10 ** 9, 0), (0, 1, -10 ** 9)]
        for lights in wrong:
            self.assert_fails(BadLights, {}, shown, book, lights)
            self.assert_fails(BadLights, {}, next_lights, book, lights, [9], [9], 9)
            self.assert_fails(BadLights, {}, successors, book, lights)


class NextLightsTest(Case):
    """Point [43]."""

    def test_all_that_can_come(self):
        for book in random_books(43, 50):
            count = len(book.crossing)
            parts = parts_of_streams(count)
            for lights in proper_lights(book):
                for bus in [None, *range(count)]:
                    for streams in parts:
                        some = wanted_lights(book, lights, streams, streams, bus)
                        self.assertEqual(next_lights(book, lights, streams, tuple(streams), bus), some)
                        none = wanted_lights(book, lights, (), streams, bus)
                        self.assertEqual(next_lights(book, lights, waiting=streams, bus=bus), none)
                        none = wanted_lights(book, lights, streams, (), bus)
                        self.assertEqual(next_lights(book, lights, came=streams, bus=bus), none)

    def test_pauses(self):
        book = Book(crossing_of(2), 9, Phase([0], pause=3), [Phase([1], pause=2, calls=[0])])
        self.assertEqual(next_lights(book, (8, 0, 0), waiting=[0]), (0, 0, -3))
        self.assertEqual(next_lights(book, (0, 0, -3)), (1, 0, -2))
        self.assertEqual(next_lights(book, (1, 0, -2)), (2, 0, -1))
        self.assertEqual(next_lights(book, (2, 0, -1), waiting=[0]), (3, 1, 0))
        self.assertEqual(next_lights(book, (2, 0, -1)), (3, 0, 0))
        self.assertEqual(next_lights(book, (3, 1, 0)), (4, 1, -2))
        self.assertEqual(next_lights(book, (8, 1, -2), waiting=[0]), (0, 1, -1))
        self.assertEqual(next_lights(book, (5, 1, -1), waiting=[0]), (6, 0, 0))

    def test_the_last_beat_of_the_round(self):
        book = Book(crossing_of(2), 4, Phase([0]), [Phase([1], calls=[1])])
        for beat in range(3):
            self.assertEqual(next_lights(book, (beat, 0, 0), waiting=[1]), (beat + 1, 0, 0))
        self.assertEqual(next_lights(book, (3, 0, 0), waiting=[1]), (0, 1, 0))
        self.assertEqual(next_lights(book, (3, 0, 0), waiting=[0]), (0, 0, 0))
        self.assertEqual(next_lights(book, (3, 0, 0), came=[1]), (0, 0, 0))
        self.assertEqual(next_lights(book, (3, 0, 0), bus=1), (0, 1, 0))

    def test_least_and_most(self):
        book = Book(crossing_of(3), 12, Phase([0]), [Phase([1], least=2, most=4, holds=[2])])
        self.assertEqual(next_lights(book, (0, 1, 0)), (1, 1, 1))
        self.assertEqual(next_lights(book, (1, 1, 1)), (2, 0, 0))
        self.assertEqual(next_lights(book, (1, 1, 1), [2]), (2, 1, 2))
        self.assertEqual(next_lights(book, (1, 1, 1), [1]), (2, 0, 0))
        self.assertEqual(next_lights(book, (2, 1, 2), (2,)), (3, 1, 3))
        self.assertEqual(next_lights(book, (3, 1, 3), [2]), (4, 0, 0))
        self.assertEqual(next_lights(book, (2, 1, 2), bus=1), (3, 1, 3))
        self.assertEqual(next_lights(book, (2, 1, 2), bus=2), (3, 0, 0))

    def test_phases_that_yield(self):
        side = Phase([1], least=1, most=3, holds=[1], calls=[1], yields=True)
        book = Book(crossing_of(3), 12, Phase([0]), [side, Phase([2])])
        self.assertEqual(next_lights(book, (11, 0, 0), waiting=[1]), (0, 1, 0))
        self.assertEqual(next_lights(book, (11, 0, 0), waiting=[1], bus=0), (0, 2, 0))
        self.assertEqual(next_lights(book, (11, 0, 0), bus=1), (0, 1, 0))
        self.assertEqual(next_lights(book, (0, 1, 0), came=[1]), (1, 1, 1))
        self.assertEqual(next_lights(book, (0, 1, 0), came=[1], bus=2), (1, 2, 0))
        self.assertEqual(next_lights(book, (0, 1, 0), bus=1), (1, 1, 1))

    def test_only_phases_with_greater_numbers_follow(self):
        book = Book(crossing_of(2), 9, Phase([0]), [Phase([1]), Phase([1], calls=[0]), Phase([0])])
        self.assertEqual(next_lights(book, (0, 1, 0)), (1, 3, 0))
        self.assertEqual(next_lights(book, (0, 1, 0), waiting=[0]), (1, 2, 0))
        self.assertEqual(next_lights(book, (2, 3, 0), waiting=[0, 1]), (3, 0, 0))

    def test_streams_that_do_not_exist_or_stand_twice(self):
        book = example_book()
        self.assertEqual(next_lights(book, (1, 1, 0), [1, 1, 7, -1], [2, 2, -5]), (2, 1, 1))
        self.assertEqual(next_lights(book, (1, 1, 0), [2, 10 ** 9, -1, 0]), (2, 1, -1))
        # A stream that a phase cannot name has no effect on any of its lights.
        for lights in proper_lights(book):
            self.assertEqual(next_lights(book, lights, (6, 6), (6, -1)), next_lights(book, lights))
        for bus in (-1, 2, 10 ** 9):
            self.assert_fails(UnknownStream, {"number": bus}, next_lights, book, (1, 1, 0), [1], [], bus)
            self.assert_fails(BadLights, {}, next_lights, book, (1, 2, 0), [1], [], bus)

    def test_what_was_passed_stays(self):
        came, waiting = [1], [0]
        next_lights(example_book(), (1, 1, 0), came, waiting, 1)
        self.assertEqual((came, waiting), ([1], [0]))

    def test_examples_of_the_interface(self):
        book = example_book()
        self.assertEqual(quiet(book), [(0, 0, -1), (1, 1, 0), (2, 1, -1), (3, 0, 0), (4, 0, 0)])
        self.assertEqual(next_lights(book, (1, 1, 0), [1]), (2, 1, 1))


class QuietTest(Case):
    """Point [44]."""

    def test_quiet(self):
        for book in random_books(44, 200, lengths=(2, 3, 7, 12)):
            self.assertEqual(quiet(book), wanted_quiet(book))
            self.assertEqual(next_lights(book, quiet(book)[-1]), quiet(book)[0])

    def test_edges(self):
        for length in (2, 12):
            book = Book(crossing_of(1), length, Phase([0]), [])
            self.assertEqual(quiet(book), [(beat, 0, 0) for beat in range(length)])
        full = Book(crossing_of(1), 12, Phase([0]), [Phase([])] * 11)
        self.assertEqual(quiet(full), [(beat, (beat + 1) % 12, 0) for beat in range(12)])
        called = Book(crossing_of(1), 3, Phase([0], pause=2), [])
        self.assertEqual(quiet(called), [(0, 0, 0), (1, 0, 0), (2, 0, 0)])

    def test_each_list_is_new(self):
        book = example_book()
        quiet(book).clear()
        self.assertEqual(len(quiet(book)), 5)

    def test_any_streams_in_came_and_waiting(self):
        rng = random.Random(45)
        for book in random_books(46, 20):
            for lights in proper_lights(book):
                came, waiting = ([rng.randint(-2, 8) for _ in range(4)] for _ in "ab")
                self.assertEqual(next_lights(book, lights, came, waiting),
                                 wanted_lights(book, lights, came, waiting, None))
