"""Books of plans and plans of books: point [47]."""

import random

from crossinglights.books import Book
from crossinglights.bookplans import book_of, plan_of
from crossinglights.errors import BadNumber, BadPlan, LightsError, NoPlan, NotFixed
from crossinglights.lights import quiet, shown
from crossinglights.phases import Phase
from crossinglights.plans import Plan
from tests.support import Case, crossing_of, random_books, random_crossing


def random_plans(seed, count):
    """Random plans of rounds of 2 to 12 beats."""
    rng = random.Random(seed)
    while count > 0:
        crossing, length = random_crossing(rng, rng.randint(1, 4), 2), rng.randint(2, 12)
        begins = [rng.randrange(length) for _ in crossing.streams]
        greens = [rng.randint(1, rng.randint(1, length)) for _ in crossing.streams]
        try:
            yield Plan(crossing, length, begins, greens)
            count -= 1
        except BadPlan:
            pass


def wanted_parts(plan):
    """The streams and beats of the side phases and of the main phase, beat by beat."""
    beats = [plan.shown(beat) for beat in range(plan.length)]
    cuts = [0] + [beat for beat in range(1, plan.length) if beats[beat] != beats[beat - 1]] + [plan.length]
    return [(beats[begin], end - begin) for begin, end in zip(cuts, cuts[1:])]


class BookOfTest(Case):
    def test_random_plans(self):
        for plan in random_plans(47, 200):
            book = book_of(plan)
            self.assertEqual((book.crossing, book.length, book.fixed), (plan.crossing, plan.length, True))
            *sides, main = wanted_parts(plan)
            self.assertEqual([(phase.green, phase.least) for phase in book.phases], sides)
            self.assertEqual((book.main.green, book.main.least), main)
            for phase in (book.main, *book.phases):
                self.assertEqual(phase, Phase(phase.green, least=phase.least))
            lights = quiet(book)
            for beat in range(plan.length):
                self.assertEqual(shown(book, lights[beat]), plan.shown(beat))

    def test_edges(self):
        always = book_of(Plan(crossing_of(1), 12, [5], [12]))
        self.assertEqual((always.main, always.phases), (Phase([0], least=12), ()))
        many = book_of(Plan(crossing_of(6), 12, [0, 2, 4, 6, 8, 10], [1] * 6))
        self.assertEqual((len(many), many.main), (12, Phase([])))
        wrapped = book_of(Plan(crossing_of(1), 4, [3], [2]))
        self.assertEqual((wrapped.main, wrapped.phases), (Phase([0]), (Phase([0]), Phase([], least=2))))
        self.assertEqual(book_of(Plan(crossing_of(1), 2, [0], [1])).length, 2)

    def test_wrong_lengths(self):
        for length in (1, 13, 60):
            self.assert_fails(BadNumber, {"number": length}, book_of, Plan(crossing_of(1), length, [0], [1]))


class PlanOfTest(Case):
    def test_there_and_back(self):
        for plan in random_plans(48, 200):
            found = plan_of(book_of(plan))
            self.assertEqual([found.shown(x) for x in range(plan.length)],
                             [plan.shown(x) for x in range(plan.length)])
            self.assertEqual((found.crossing, found.greens), (plan.crossing, plan.greens))

    def test_random_books(self):
        kinds = {}
        for book in random_books(49, 400, lengths=(3, 6, 9)):
            try:
                found = plan_of(book)
            except LightsError as error:
                found = error
            kinds[type(found)] = kinds.get(type(found), 0) + 1
            if not book.fixed:
                self.assertIs(type(found), NotFixed)
                continue
            greens = [[x for x in range(book.length) if s in shown(book, quiet(book)[x])]
                      for s in range(len(book.crossing))]
            runs = [sum((x - 1) % book.length not in beats for x in beats) + (len(beats) == book.length)
                    for beats in greens]
            if set(runs) != {1}:
                self.assertEqual((type(found), found.number), (NoPlan, [run == 1 for run in runs].index(False)))
            elif type(found) is Plan:
                self.assertEqual([sorted(found.green_beats(s)) for s in range(len(greens))], greens)
            else:
                self.assertEqual((type(found), found.part), (BadPlan, "rival"))
        self.assertTrue(all(kinds.get(kind, 0) > 3 for kind in (NotFixed, NoPlan, Plan)), kinds)

    def test_begins_and_greens(self):
        found = plan_of(Book(crossing_of(3), 6, Phase([0], pause=1), [Phase([1, 2], least=2), Phase([2])]))
        self.assertEqual((found.length, found.begins, found.greens), (6, (4, 1, 1), (2, 2, 3)))
        wrapped = plan_of(Book(crossing_of(2), 6, Phase([0, 1], least=2), [Phase([1]), Phase([], least=2)]))
        self.assertEqual((wrapped.begins, wrapped.greens), ((3, 3), (3, 4)))

    def test_all_beats(self):
        found = plan_of(Book(crossing_of(1), 5, Phase([0]), [Phase([0], least=2)]))
        self.assertEqual((found.begins, found.greens), ((0,), (5,)))

    def test_books_without_a_plan(self):
        main = Phase([0])
        for side in (Phase([1], yields=True), Phase([1], calls=[1]), Phase([1], most=2)):
            self.assert_fails(NotFixed, {}, plan_of, Book(crossing_of(3), 6, main, [side]))
        none = Book(crossing_of(3), 6, main, [Phase([2])])
        self.assert_fails(NoPlan, {"number": 1}, plan_of, none)
        two = Book(crossing_of(2), 6, main, [Phase([1]), Phase([0]), Phase([1])])
        self.assert_fails(NoPlan, {"number": 0}, plan_of, two)
        two = Book(crossing_of(2), 6, main, [Phase([1]), Phase([]), Phase([1])])
        self.assert_fails(NoPlan, {"number": 1}, plan_of, two)

    def test_what_a_plan_raises(self):
        near = Book(crossing_of(3, (1, 2, 0, 0), (0, 1, 1, 0)), 6, Phase([0]), [Phase([1, 2]), Phase([])])
        self.assert_fails(BadPlan, {"part": "rival", "place": 0}, plan_of, near)
        near = Book(crossing_of(3, (1, 2, 0, 0), (0, 1, 1, 0)), 6, Phase([0]), [Phase([1]), Phase([2]), Phase([])])
        self.assert_fails(BadPlan, {"part": "rival", "place": 1}, plan_of, near)
