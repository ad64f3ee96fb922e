"""Books of plans, and plans of fixed books."""

from crossinglights.beats import Beats
from crossinglights.books import Book, is_book_length
from crossinglights.errors import BadNumber, NoPlan, NotFixed
from crossinglights.lights import quiet, shown
from crossinglights.phases import Phase
from crossinglights.plans import Plan


def stretches(plan):
    """Return the pairs of the streams and the beats of the longest stretches with the same green streams."""
    found = []
    for beat in range(plan.length):
        green = plan.shown(beat)
        if len(found) > 0 and found[-1][0] == green:
            found[-1] = (green, found[-1][1] + 1)
        else:
            found.append((green, 1))
    return found


def book_of(plan):
    """Return the book that shows the same streams as the plan."""
    if not is_book_length(plan.length):
        raise BadNumber(plan.length)
    phases = [Phase(green, least=beats) for green, beats in stretches(plan)]
    return Book(plan.crossing, plan.length, phases[-1], phases[:-1])


def green_runs(book, stream):
    """Return the runs of the beats in which quiet lights show the stream."""
    return Beats(book.length, [lights[0] for lights in quiet(book) if stream in shown(book, lights)]).runs()


def plan_of(book):
    """Return the plan that shows the same streams as a fixed book."""
    if not book.fixed:
        raise NotFixed()
    begins = []
    greens = []
    for stream in range(len(book.crossing)):
        runs = green_runs(book, stream)
        if len(runs) != 1:
            raise NoPlan(stream)
        begins.append(runs[0][0])
        greens.append(runs[0][1])
    return Plan(book.crossing, book.length, begins, greens)
