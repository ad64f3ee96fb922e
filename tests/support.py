"""What several test files need."""

import itertools
import random
import unittest

from crossinglights.beats import Beats
from crossinglights.books import Book
from crossinglights.crossings import Crossing
from crossinglights.nets import Net
from crossinglights.phases import Phase
from crossinglights.rates import Rate
from crossinglights.sites import Site

NAMES = ["a", "b", "c", "d", "e", "f"]


class Case(unittest.TestCase):
    """A test case that knows how to look at the errors of the package."""

    def assert_fails(self, error, attributes, call, *args):
        """The call raises exactly this class, with exactly these attributes in this order."""
        with self.assertRaises(error) as caught:
            call(*args)
        self.assertIs(type(caught.exception), error)
        self.assertEqual(list(vars(caught.exception).items()), list(attributes.items()))


def crossing_of(count, *rivals):
    """A crossing with so many streams."""
    return Crossing(NAMES[:count], list(rivals))


def ring_crossing(count, order=None):
    """A crossing whose rivals are the neighbours in a ring of its streams."""
    order = order or list(range(count))
    pairs = [(order[k], order[(k + 1) % count]) for k in range(count)]
    return crossing_of(count, *[(first, second, 1, 2) for first, second in pairs])


def full_crossing(count, seed):
    """A crossing in which every two streams are rivals."""
    rng = random.Random(seed)
    pairs = itertools.combinations(range(count), 2)
    return crossing_of(count, *[(a, b, rng.randint(0, 9), rng.randint(0, 9)) for a, b in pairs])


def random_crossing(rng, count, greatest=9):
    """A crossing in which about half of the pairs are rivals, in either order."""
    rivals = []
    for first, second in itertools.combinations(range(count), 2):
        if rng.random() < 0.5:
            pair = (first, second) if rng.random() < 0.5 else (second, first)
            rivals.append((*pair, rng.randint(0, greatest), rng.randint(0, greatest)))
    rng.shuffle(rivals)
    return crossing_of(count, *rivals)


def random_beats(rng, length):
    """A set of beats with any number of them."""
    return Beats(length, rng.sample(range(length), rng.randint(0, length)))


def all_beats(length):
    """All sets of beats of a short round."""
    for many in range(length + 1):
        for members in itertools.combinations(range(length), many):
            yield Beats(length, members)


def random_net(rng, length, nodes, ties, least=0, most=60):
    """A net with so many ties, each with least to most beats; without ties if there are no two nodes."""
    found = []
    for _ in range(ties if nodes > 1 else 0):
        first, second = rng.sample(range(nodes), 2)
        many = rng.randint(least, min(most, length))
        found.append((first, second, Beats(length, rng.sample(range(length), many))))
    return Net(length, nodes, found)


def all_settings(net):
    """All settings of a net, ascending."""
    return itertools.product(range(net.length), repeat=net.nodes)


def keeps(net, setting):
    """Return True if the setting keeps the net."""
    return all((setting[b] - setting[a]) % net.length in list(beats) for a, b, beats in net.ties)


def is_based(net, setting):
    """Return True if the setting gives 0 to the least node of each piece."""
    return all(setting[piece[0]] == 0 for piece in net.pieces())


ALL_RATES = [Rate(burst, num, den) for burst in (1, 2, 3) for den in range(1, 7) for num in range(1, den + 1)]


def is_let(rate, row):
    """The credit of point [31], step by step."""
    full = rate.burst * rate.den + rate.num - 1
    credit = full
    for came in row:
        if came and credit < rate.den:
            return False
        credit = min(full, credit - came * rate.den + rate.num)
    return True


def credit_after(rate, row):
    """The credit after a row that is let."""
    full = rate.burst * rate.den + rate.num - 1
    credit = full
    for came in row:
        credit = min(full, credit - came * rate.den + rate.num)
    return credit


def some_flows(seed, count, lengths=(1, 2, 3, 4, 5, 6)):
    """Rates with green beats, about half of which do not grow."""
    rng = random.Random(seed)
    for _ in range(count):
        length = rng.choice(lengths)
        yield rng.choice(ALL_RATES), Beats(length, rng.sample(range(length), rng.randint(0, length)))


def grows(rate, green):
    """Return True if more vehicles can come than leave in the long run."""
    return rate.num * green.length > len(list(green)) * rate.den


def simulated(green, begin, row, start=0):
    """Point [33] with a list of vehicles: the queue after each beat, and the vehicles that left."""
    queue = ["first"] * start
    told = []
    for place, came in enumerate(row):
        queue = queue + [place] * came
        left = 1 if queue and (begin + place) % green.length in list(green) else 0
        queue = queue[left:]
        told.append((len(queue), left))
    return told


def reached(starts, following):
    """All states that can be reached from the starts."""
    known = set(starts)
    pending = list(starts)
    while pending:
        for state in following(pending.pop()):
            if state not in known:
                known.add(state)
                pending.append(state)
    return known


def parts_of_streams(count):
    """All sets of streams, as lists."""
    return [[s for s in range(count) if number >> s & 1] for number in range(2 ** count)]


def random_phase(rng, count, room):
    """A phase that needs at most so many beats."""
    least = rng.randint(1, min(room, 3))
    most = rng.randint(least, min(room, least + 2))
    pick = [rng.sample(range(count), rng.randint(0, min(2, count))) for _ in range(3)]
    calls = pick[2] if rng.random() < 0.6 else []
    return Phase(pick[0], least=least, most=most, pause=rng.randint(0, min(2, room - most)), holds=pick[1],
                 calls=calls, yields=rng.random() < 0.3)


def random_book(rng, crossing, length):
    """A book whose phases fill the round or leave some of it to the main phase."""
    main = Phase(rng.sample(range(len(crossing)), rng.randint(0, 2 if len(crossing) > 1 else 1)),
                 least=rng.randint(1, min(2, length)))
    room = length - main.least
    pause = rng.randint(0, min(2, room))
    main = Phase(main.green, least=main.least, pause=pause)
    room -= pause
    phases = []
    while room > 0 and rng.random() < 0.85:
        phases.append(random_phase(rng, len(crossing), room))
        room -= phases[-1].most + phases[-1].pause
    return Book(crossing, length, main, phases)


def random_books(seed, count, streams=(1, 2, 3), lengths=(2, 3, 5, 6, 8)):
    """Random books of random crossings."""
    rng = random.Random(seed)
    for _ in range(count):
        yield random_book(rng, random_crossing(rng, rng.choice(streams), 3), rng.choice(lengths))


def wanted_lights(book, lights, came, waiting, bus):
    """Point [43] for proper lights, read line by line."""
    beat, number, count = lights
    phases = [book.main, *book.phases]
    came, waiting = set(came), set(waiting)

    def urged(k):
        return bus is not None and bus in phases[k].green

    def barred(k):
        return phases[k].yields and bus is not None and not urged(k)

    def wanted(k):
        return not barred(k) and (not phases[k].calls or bool(waiting & set(phases[k].calls)) or urged(k))

    def held(k):
        return not barred(k) and (urged(k) or bool(came & set(phases[k].holds)))

    later = 0 if beat == book.length - 1 else beat + 1
    sides = range(1, len(phases))
    if count < -1:
        return (later, number, count + 1)
    if number == 0 and count == 0 and not (beat == book.length - 1 and any(wanted(k) for k in sides)):
        return (later, 0, 0)
    if number > 0 and count >= 0:
        if count + 1 < phases[number].least or (count + 1 < phases[number].most and held(number)):
            return (later, number, count + 1)
    if count >= 0 and phases[number].pause > 0:
        return (later, number, -phases[number].pause)
    return (later, min([k for k in sides if k > number and wanted(k)], default=0), 0)


def proper_lights(book):
    """All proper lights of a book."""
    for beat in range(book.length):
        for number, phase in enumerate([book.main, *book.phases]):
            for count in range(-phase.pause, phase.most if number else 1):
                yield (beat, number, count)


def wanted_successors(book, lights, call=None, buses=True):
    """All lights that can follow, with all sets of streams and all buses."""
    count = len(book.crossing)
    asking = [None, *range(count)] if buses else [None]
    return {wanted_lights(book, lights, came, waiting, bus) for came in parts_of_streams(count)
            for waiting in parts_of_streams(count) if call is None or call in waiting for bus in asking}


def wanted_quiet(book):
    """The lights of a round in which nothing comes."""
    lights, found = (book.length - 1, 0, 0), []
    for _ in range(book.length):
        lights = wanted_lights(book, lights, (), (), None)
        found.append(lights)
    return found


def is_shown(book, lights, stream):
    """Return True if the lights show the stream."""
    return lights[2] >= 0 and stream in [book.main, *book.phases][lights[1]].green


def small_book(count=2, length=5, **more):
    """A book with a main phase for stream 0 and perhaps more."""
    return Book(crossing_of(count), length, Phase([0]), **{"phases": [], **more})


def road_site(*lanes, length=4, phases=()):
    """A site with these lanes and no rivals."""
    return Site(Book(crossing_of(len(lanes)), length, Phase([0]), list(phases)), list(lanes))
