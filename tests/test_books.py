"""Books: points [40] and [41]."""

from crossinglights.books import Book
from crossinglights.crossings import Crossing
from crossinglights.errors import BadBook, UnknownPhase
from crossinglights.phases import Phase
from tests.support import Case, crossing_of


class MakingTest(Case):
    """Point [40]."""

    def assert_wrong(self, part, place, *args):
        self.assert_fails(BadBook, {"part": part, "place": place}, Book, *args)

    def test_attributes(self):
        crossing, main = crossing_of(3, (0, 1, 1, 2)), Phase([0], least=2, pause=1)
        phases = [Phase([1], most=3, holds=[1]), Phase([], pause=2, calls=[2])]
        book = Book(crossing, 10, main, phases)
        self.assertEqual((book.crossing, book.length, book.main, book.phases), (crossing, 10, main, tuple(phases)))
        self.assertIs(type(book.phases), tuple)
        self.assertEqual((len(book), len(Book(crossing, 3, main, ()))), (3, 1))

    def test_what_was_passed_is_copied(self):
        phases = [Phase([1])]
        book = Book(crossing_of(2), 5, Phase([0]), phases)
        phases.append(Phase([0]))
        self.assertEqual((book.phases, len(book), len(phases)), ((Phase([1]),), 2, 2))

    def test_lengths(self):
        for length in (2, 12):
            self.assertEqual(Book(crossing_of(1), length, Phase([0]), []).length, length)
        for length in (1, 0, -1, 13, 10 ** 9):
            self.assert_wrong("length", 0, crossing_of(1), length, Phase([3], most=2), [Phase([4])] * 13)

    def test_numbers_of_phases(self):
        self.assertEqual(len(Book(crossing_of(1), 12, Phase([0]), [Phase([])] * 11)), 12)
        self.assert_wrong("beats", 0, crossing_of(1), 12, Phase([0]), [Phase([])] * 12)
        for many in (13, 20):
            self.assert_wrong("phases", 0, crossing_of(1), 12, Phase([0], yields=True), [Phase([])] * many)

    def test_wrong_main_phases(self):
        for main in (Phase([0], yields=True), Phase([0], holds=[0]), Phase([0], calls=[0]), Phase([0], most=2),
                     Phase([5], least=11, most=12)):
            self.assert_wrong("phase", 0, crossing_of(1), 2, main, [Phase([3])])
        self.assertEqual(Book(crossing_of(1), 3, Phase([0], least=2, most=2, yields=False), []).main.most, 2)

    def test_streams_that_do_not_exist(self):
        good = Phase([0, 1], holds=[1], calls=[0])
        for wrong in (Phase([2]), Phase([0], holds=[5]), Phase([0], calls=[1, 3])):
            self.assert_wrong("phase", 1, crossing_of(2), 2, Phase([0]), [wrong, wrong])
            self.assert_wrong("phase", 3, crossing_of(2), 5, Phase([0]), [good, good, wrong, good])
        self.assert_wrong("phase", 0, crossing_of(2), 2, Phase([2]), [Phase([2])])
        self.assertEqual(len(Book(crossing_of(6), 2, Phase([5]), [Phase([4], holds=[3], calls=[5])])), 2)

    def test_beats(self):
        main = Phase([0], least=2, pause=1)
        full = [Phase([1], least=1, most=3, pause=2), Phase([1], most=2)]
        self.assertEqual(Book(crossing_of(2), 10, main, full).length, 10)
        self.assert_wrong("beats", 0, crossing_of(2), 9, main, full)
        self.assertEqual(Book(crossing_of(2), 12, Phase([0], least=3, pause=9), []).length, 12)
        self.assert_wrong("beats", 0, crossing_of(2), 12, Phase([0], least=4, pause=9), [])


class BookTest(Case):
    """Point [41]."""

    def test_phase(self):
        main, side = Phase([0]), Phase([1], pause=1)
        book = Book(crossing_of(2), 9, main, [side, main])
        self.assertEqual([book.phase(number) for number in range(3)], [main, side, main])
        for number in (-1, 3, 10 ** 9):
            self.assert_fails(UnknownPhase, {"number": number}, book.phase, number)

    def test_fixed(self):
        crossing, main = crossing_of(2), Phase([0])
        good = Phase([1], least=2, pause=1, holds=[0])
        self.assertIs(Book(crossing, 9, main, []).fixed, True)
        self.assertIs(Book(crossing, 9, main, [good, good]).fixed, True)
        for wrong in (Phase([1], yields=True), Phase([1], calls=[1]), Phase([1], most=2)):
            self.assertIs(Book(crossing, 9, main, [good, wrong]).fixed, False)
            self.assertIs(Book(crossing, 9, main, [wrong, good]).fixed, False)

    def test_equality(self):
        crossing, main, side = crossing_of(2, (0, 1, 1, 2)), Phase([0]), Phase([1])
        book = Book(crossing, 6, main, [side, main])
        self.assertEqual(book, Book(Crossing(["a", "b"], [(1, 0, 2, 1)]), 6, Phase([0]), (side, main)))
        for other in (Book(crossing_of(2), 6, main, [side, main]), Book(crossing, 7, main, [side, main]),
                      Book(crossing, 6, side, [side, main]), Book(crossing, 6, main, [main, side]),
                      Book(crossing, 6, main, [side])):
            self.assertNotEqual(book, other)
        self.assertNotEqual(book, None)
        self.assertTrue(all(name in vars(Book) for name in ("__eq__", "__len__", "phase", "fixed")))
