"""Open lights: points [45] and [46]."""

import random

from crossinglights.books import Book
from crossinglights.errors import BadLights, UnknownStream
from crossinglights.lights import next_lights, quiet, shown
from crossinglights.openlights import closest, longest_call, near_pair, open_lights, successors
from crossinglights.phases import Phase
from tests.support import (Case, crossing_of, is_shown, proper_lights, random_books, reached, wanted_quiet,
                           wanted_successors)
from tests.test_lights import example_book


def wanted_open(book, buses):
    """All lights to which something can lead from quiet lights."""
    return reached(wanted_quiet(book), lambda lights: wanted_successors(book, lights, buses=buses))


def wanted_closest(book, first, second, buses):
    """The least number of beats over all runs, each pair of lights looked at for itself."""
    known = wanted_open(book, buses)
    following = {lights: wanted_successors(book, lights, buses=buses) for lights in known}
    found = []
    for start in known:
        if is_shown(book, start, first):
            front, beats, seen = {start}, 0, set()
            while front and not any(is_shown(book, lights, second) for lights in front):
                seen |= front
                front = {later for lights in front for later in following[lights]} - seen
                beats += 1
            if front:
                found.append(beats)
    return min(found, default=None)


def wanted_call(book, stream, buses):
    """The longest run without the stream, by its lights one after the other."""
    red = {lights for lights in wanted_open(book, buses) if not is_shown(book, lights, stream)}
    following = {lights: wanted_successors(book, lights, stream, buses) & red for lights in red}
    known = {}

    def longest(lights, above):
        if lights in above:
            return None
        if lights not in known:
            runs = [longest(later, above | {lights}) for later in following[lights]]
            known[lights] = None if None in runs else 1 + max(runs, default=0)
        return known[lights]

    runs = [longest(lights, frozenset()) for lights in red]
    return None if None in runs else max(runs, default=0)


class SuccessorsTest(Case):
    def test_all_that_can_follow(self):
        for book in random_books(146, 40):
            for lights in proper_lights(book):
                for call in [None, *range(len(book.crossing))]:
                    for buses in (True, False):
                        wanted = sorted(wanted_successors(book, lights, call, buses))
                        self.assertEqual(successors(book, lights, call=call, buses=buses), wanted)

    def test_more_streams(self):
        for book in random_books(147, 3, streams=(4, 5), lengths=(7,)):
            for lights in list(proper_lights(book))[::5]:
                self.assertEqual(successors(book, lights, call=3), sorted(wanted_successors(book, lights, 3)))

    def test_defaults(self):
        book = Book(crossing_of(2), 4, Phase([0]), [Phase([1], calls=[0])])
        self.assertEqual(successors(book, (3, 0, 0)), [(0, 0, 0), (0, 1, 0)])
        self.assertEqual(successors(book, (3, 0, 0), call=1, buses=False), [(0, 0, 0), (0, 1, 0)])
        self.assertEqual(successors(book, (3, 0, 0), call=0), [(0, 1, 0)])
        with self.assertRaises(TypeError):
            successors(book, (3, 0, 0), 0)

    def test_buses(self):
        book = Book(crossing_of(2), 4, Phase([0]), [Phase([1], yields=True)])
        self.assertEqual(successors(book, (3, 0, 0)), [(0, 0, 0), (0, 1, 0)])
        self.assertEqual(successors(book, (3, 0, 0), buses=False), [(0, 1, 0)])

    def test_wrong_lights(self):
        self.assert_fails(BadLights, {}, successors, example_book(), (5, 0, 0))
        self.assert_fails(BadLights, {}, lambda: successors(example_book(), (0, 1, 2), call=0, buses=False))


class OpenLightsTest(Case):
    def test_open_lights(self):
        for book in random_books(148, 60):
            for buses in (True, False):
                self.assertEqual(open_lights(book, buses=buses), sorted(wanted_open(book, buses)))
            self.assertEqual(open_lights(book), open_lights(book, buses=True))

    def test_buses_open_more(self):
        book = Book(crossing_of(2), 3, Phase([0]), [Phase([1], most=2)])
        self.assertEqual(open_lights(book, buses=False), [(0, 1, 0), (1, 0, 0), (2, 0, 0)])
        self.assertEqual(open_lights(book), [(0, 1, 0), (1, 0, 0), (1, 1, 1), (2, 0, 0)])

    def test_each_list_is_new(self):
        book = example_book()
        open_lights(book).clear()
        successors(book, (0, 0, -1)).clear()
        self.assertEqual((len(open_lights(book)), len(successors(book, (0, 0, -1)))), (7, 1))

    def test_facts(self):
        """Point [45]."""
        rng = random.Random(149)
        for book in random_books(149, 60):
            for lights in open_lights(book):
                if lights[0] >= book.length - book.main.least:
                    self.assertEqual(lights[1:], (0, 0))
            lights, seen = rng.choice(quiet(book)), []
            streams = range(len(book.crossing))
            for _ in range(12 * book.length):
                came, waiting = ([s for s in streams if rng.random() < 0.5] for _ in "ab")
                seen.append(lights)
                lights = next_lights(book, lights, came, waiting, rng.choice([None, None, *streams]))
            self.check_rounds(book, seen)

    def check_rounds(self, book, seen):
        starts = [place for place, lights in enumerate(seen) if lights[0] == 0]
        for start in starts[:-1]:
            turn = seen[start:start + book.length]
            numbers = [number for _, number, count in turn if number and count == 0]
            self.assertEqual(numbers, sorted(set(numbers)))
            for number in numbers:
                greens = [lights for lights in turn if lights[1] == number and lights[2] >= 0]
                self.assertTrue(book.phase(number).least <= len(greens) <= book.phase(number).most)
                self.assertEqual([lights[2] for lights in greens], list(range(len(greens))))
                self.assertEqual(greens[-1][0] - greens[0][0], len(greens) - 1)


class ClosestTest(Case):
    def test_closest_and_near_pair(self):
        pairs = 0
        for book in random_books(150, 80):
            for buses in (True, False):
                near = []
                for first in range(len(book.crossing)):
                    for second in range(len(book.crossing)):
                        wanted = wanted_closest(book, first, second, buses)
                        self.assertEqual(closest(book, first, second, buses=buses), wanted)
                        span = book.crossing.span(first, second)
                        if span is not None and wanted is not None and wanted <= span:
                            near.append((first, second))
                self.assertEqual(near_pair(book, buses=buses), min(near, default=None))
                pairs += bool(near)
        self.assertGreater(pairs, 20)

    def test_streams_that_are_never_or_always_green(self):
        book = Book(crossing_of(3, (0, 1, 0, 0), (1, 2, 9, 9)), 4, Phase([0]), [Phase([0, 1], calls=[2])])
        self.assertEqual([closest(book, s, s) for s in range(3)], [0, 0, None])
        self.assertEqual([closest(book, 0, 2), closest(book, 2, 0), closest(book, 0, 1)], [None, None, 0])
        self.assertEqual(near_pair(book), (0, 1))

    def test_exactly_near_and_not_near(self):
        for span, wanted in ((1, None), (2, (0, 1))):
            crossing = crossing_of(2, (0, 1, span, 0))
            book = Book(crossing, 6, Phase([0], pause=1), [Phase([1])])
            self.assertEqual((closest(book, 0, 1), closest(book, 1, 0), near_pair(book)), (2, 1, wanted))
        self.assertEqual(near_pair(Book(crossing_of(2, (0, 1, 0, 1)), 6, Phase([0]), [Phase([1])])), (1, 0))
        self.assertIsNone(near_pair(Book(crossing_of(2), 6, Phase([0, 1]), [])))

    def test_buses_bring_rivals_near(self):
        book = Book(crossing_of(3, (0, 1, 1, 1)), 6, Phase([0]), [Phase([2], yields=True), Phase([1], pause=1)])
        self.assertEqual((closest(book, 0, 1, buses=False), near_pair(book, buses=False)), (2, None))
        self.assertEqual((closest(book, 0, 1), near_pair(book)), (1, (0, 1)))

    def test_unknown_streams(self):
        book = example_book()
        for stream in (-1, 2, 10 ** 9):
            self.assert_fails(UnknownStream, {"number": stream}, closest, book, stream, 7)
            self.assert_fails(UnknownStream, {"number": stream}, closest, book, 0, stream)
            self.assert_fails(UnknownStream, {"number": stream}, longest_call, book, stream)


class LongestCallTest(Case):
    def test_longest_call(self):
        kinds = {None: 0, 0: 0}
        for book in random_books(151, 80):
            for buses in (True, False):
                for stream in range(len(book.crossing)):
                    wanted = wanted_call(book, stream, buses)
                    self.assertEqual(longest_call(book, stream, buses=buses), wanted)
                    kinds[wanted] = kinds.get(wanted, 0) + 1
        self.assertTrue(kinds[None] > 20 and kinds[0] > 10 and len(kinds) > 5)

    def test_edges(self):
        never = Book(crossing_of(2), 4, Phase([0]), [])
        self.assertEqual([longest_call(never, 0), longest_call(never, 1)], [0, None])
        always = Book(crossing_of(2), 4, Phase([0]), [Phase([0, 1], calls=[1])])
        self.assertEqual([longest_call(always, 0), longest_call(always, 1)], [0, 4])
        longer = Book(crossing_of(2), 12, Phase([0], pause=9), [Phase([1], calls=[1])])
        self.assertEqual(longest_call(longer, 1), 21)

    def test_a_call_that_a_bus_keeps_waiting_for_ever(self):
        book = Book(crossing_of(2), 4, Phase([0]), [Phase([1], calls=[1], yields=True)])
        self.assertEqual((longest_call(book, 1), longest_call(book, 1, buses=False)), (None, 4))

    def test_example_of_the_interface(self):
        book = example_book()
        found = [successors(book, (1, 1, 0)), closest(book, 0, 1), near_pair(book), longest_call(book, 1)]
        self.assertEqual(found, [[(2, 1, -1), (2, 1, 1)], 2, None, 4])
        self.assertEqual(shown(book, (1, 1, 0)), (1,))
