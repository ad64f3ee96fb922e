"""Towns for tests, and a second account of what happens in them: with every vehicle by itself, and all that was."""

import itertools
import random

from crossinglights.lanes import Foot, Road
from crossinglights.openlights import near_pair
from crossinglights.rates import Rate
from crossinglights.sites import Site
from crossinglights.states import comings_list
from crossinglights.stepping import after, breaks
from crossinglights.streets import Street
from crossinglights.towns import Town
from crossinglights.towntext import read_town
from tests.support import random_book, random_crossing, wanted_lights, wanted_quiet


SMALL = ["round 3", "site 0", "stream a road 1 rate 1 1/2", "stream b foot 4", "rival a b 0 1", "main 1 0 : a",
         "phase 1 1 1 : b ? b"]

# A call waits four beats at most, just as long as its bound.
CALLS = ["round 4", "site 0", "stream a road 1 rate 1 1/4", "stream b foot 4", "rival a b 0 1", "main 1 0 : a",
         "phase 1 1 1 : b ? b"]

# The sensor of the one lane takes so much green from the other one that its queue becomes too long.
BREACH = ["round 5", "site 0", "stream a road 1 rate 1 1/2", "stream b road 2", "rival a b 1 1", "main 1 1 : a",
          "phase 1 2 1 : b + b"]

# A street from the first site to the second one, a lane with buses, and streams that quiet lights never show.
MIXED = ["round 5",
         "site 1", "stream a road 3 rate 2 1/3", "stream b road 2", "stream c foot 6", "rival a b 1 1", "rival c a 4 0",
         "main 1 1 : a", "phase 1 2 1 : b + b",
         "site 3", "stream a road 4", "stream b road 2 rate 1 2/3 bus 4", "main 1 0 : b", "phase 1 1 0 : a",
         "street 0 a 1 a 3"]


def town_of(lines):
    """The town with these lines."""
    return read_town("\n".join(lines))


class Model:
    """A town in which every green, vehicle and call is kept, with the beats counted from the first one on."""

    def __init__(self, town):
        self.town = town
        self.now = 0
        self.lanes = [(place, stream) for place, site in enumerate(town.sites) for stream in range(len(site.lanes))]
        self.lights = []
        self.greens = {}
        for site, offset in zip(town.sites, town.offsets):
            self.lights.append(wanted_quiet(site.book)[-offset % town.length])
        # The beats before the first one: two rounds of quiet lights are as good as all rounds before.
        for beat in range(-24, 0):
            self.greens[beat] = self.quiet_greens(beat)
        self.queues = [[] for _ in self.lanes]
        self.calls = [None for _ in self.lanes]
        self.buses = [None for _ in self.lanes]
        self.credit = [self.lane(n).rate.full if self.has_rate(n) else 0 for n in range(len(self.lanes))]
        self.driving = [[] for _ in town.streets]
        self.came = [0] * len(self.lanes)
        self.left = [0] * len(self.lanes)

    def copy(self):
        other = Model.__new__(Model)
        vars(other).update(vars(self))
        other.greens = dict(self.greens)
        for name in ("lights", "calls", "buses", "credit", "came", "left"):
            setattr(other, name, list(getattr(self, name)))
        other.queues = [list(queue) for queue in self.queues]
        other.driving = [list(row) for row in self.driving]
        return other

    def lane(self, number):
        site, stream = self.lanes[number]
        return self.town.sites[site].lanes[stream]

    def crossing(self, number):
        return self.town.sites[self.lanes[number][0]].book.crossing

    def has_rate(self, number):
        return isinstance(self.lane(number), Road) and self.lane(number).rate is not None

    def has_buses(self, number):
        return isinstance(self.lane(number), Road) and self.lane(number).bus > 0

    def quiet_greens(self, beat):
        found = set()
        for number, (site, stream) in enumerate(self.lanes):
            book = self.town.sites[site].book
            lights = wanted_quiet(book)[(beat - self.town.offsets[site]) % self.town.length]
            if lights[2] >= 0 and stream in [book.main, *book.phases][lights[1]].green:
                found.add(number)
        return found

    def green(self):
        """The lanes that are green in the beat that is to come."""
        found = set()
        for number, (site, stream) in enumerate(self.lanes):
            book = self.town.sites[site].book
            _, phase, count = self.lights[site]
            if count >= 0 and stream in [book.main, *book.phases][phase].green:
                found.add(number)
        return found

    def longest(self, number):
        """The greatest span from a lane to a rival."""
        stream = self.lanes[number][1]
        spans = [rival[2] for rival in self.crossing(number).rivals if rival[0] == stream]
        return max(spans + [rival[3] for rival in self.crossing(number).rivals if rival[1] == stream], default=0)

    def since(self, number):
        for beats in range(self.longest(number)):
            if number in self.greens[self.now - 1 - beats]:
                return beats
        return self.longest(number)

    def ahead(self, number):
        for place, vehicle in enumerate(self.queues[number]):
            if vehicle == "bus":
                return place
        return -1

    def age(self, number):
        last = self.calls[number] if isinstance(self.lane(number), Foot) else self.buses[number]
        return 0 if last is None else self.now - last

    def road(self, street):
        arrivals = self.driving[street]
        return tuple(1 if self.now + k in arrivals else 0 for k in range(self.town.streets[street].travel))

    def state(self):
        """Point [53]."""
        numbers = range(len(self.lanes))
        return (self.now % self.town.length, tuple(lights[1:] for lights in self.lights),
                tuple(self.since(n) for n in numbers), tuple(len(self.queues[n]) for n in numbers),
                tuple(self.ahead(n) for n in numbers), tuple(self.age(n) for n in numbers), tuple(self.credit),
                tuple(self.road(j) for j in range(len(self.town.streets))))

    def comings(self):
        """Point [55]."""
        found = []
        for number in range(len(self.lanes)):
            if isinstance(self.lane(number), Foot):
                found.append([0, 1])
            elif not self.has_rate(number) or self.credit[number] < self.lane(number).rate.den:
                found.append([0])
            elif self.has_buses(number) and self.age(number) == 0:
                found.append([0, 1, 2])
            else:
                found.append([0, 1])
        return list(itertools.product(*found))

    def beat(self, comings):
        """Point [56]; returns the vehicles that left, and the ascending list of the breaks of point [57]."""
        green, entered = self.green(), set()
        self.greens[self.now] = green
        for number, coming in enumerate(comings):
            if not isinstance(self.lane(number), Foot) and coming:
                self.enter(number, ["", "car", "bus"][coming])
                entered.add(number)
        for street, arrivals in zip(self.town.streets, self.driving):
            if self.now in arrivals:
                number = self.lanes.index(street.end)
                self.enter(number, "car")
                entered.add(number)
        gone = tuple(self.leave(number, green) for number in range(len(self.lanes)))
        for number, coming in enumerate(comings):
            self.wait(number, coming, green)
        self.change_lights(entered)
        self.now += 1
        return gone, sorted(self.near(green) + self.full() + self.late())

    def enter(self, number, vehicle):
        self.queues[number].append(vehicle)
        self.came[number] += 1
        if vehicle == "bus":
            self.buses[number] = self.now

    def leave(self, number, green):
        if number not in green or not self.queues[number]:
            return 0
        self.queues[number].pop(0)
        self.left[number] += 1
        for street, arrivals in zip(self.town.streets, self.driving):
            if self.lanes.index(street.start) == number:
                arrivals.append(self.now + street.travel)
        return 1

    def wait(self, number, coming, green):
        """What becomes of calls, of the beats since the last bus, and of the credit."""
        lane = self.lane(number)
        if isinstance(lane, Foot):
            self.came[number] += coming
            if number in green:
                self.calls[number] = None
            elif coming and self.calls[number] is None:
                self.calls[number] = self.now
            return
        if self.buses[number] is not None and "bus" not in self.queues[number]:
            if self.now + 1 - self.buses[number] > lane.bus:
                self.buses[number] = None
        if lane.rate is not None:
            spent = lane.rate.den if coming else 0
            full = lane.rate.burst * lane.rate.den + lane.rate.num - 1
            self.credit[number] = min(full, self.credit[number] - spent + lane.rate.num)

    def change_lights(self, entered):
        for site in range(len(self.lights)):
            numbers = [n for n in range(len(self.lanes)) if self.lanes[n][0] == site]
            came = [self.lanes[n][1] for n in numbers if n in entered]
            waiting = [self.lanes[n][1] for n in numbers if self.calls[n] is not None]
            asking = [self.lanes[n][1] for n in numbers if "bus" in self.queues[n]] + [None]
            self.lights[site] = wanted_lights(self.town.sites[site].book, self.lights[site], came, waiting, asking[0])

    def near(self, green):
        found = []
        for first, second in itertools.permutations(range(len(self.lanes)), 2):
            if self.lanes[first][0] == self.lanes[second][0] and second in green:
                span = self.crossing(first).span(self.lanes[first][1], self.lanes[second][1])
                if span is not None and any(first in self.greens[self.now - 1 - k] for k in range(span + 1)):
                    found.append(("near", first, second))
        return found

    def full(self):
        return [("full", n) for n in range(len(self.lanes))
                if isinstance(self.lane(n), Road) and len(self.queues[n]) > self.lane(n).capacity]

    def late(self):
        return [("late", n) for n in range(len(self.lanes)) if self.age(n) > self.lane(n).bound
                and (isinstance(self.lane(n), Foot) or "bus" in self.queues[n])]


def random_lanes(rng, count, sources):
    """Lanes for so many streams, at most so many of them foot lanes or with a rate; at most one has buses."""
    lanes, buses = [], False
    for _ in range(count):
        kind = rng.random()
        if sources > 0 and kind < 0.3:
            lanes.append(Foot(rng.randint(2, 10)))
            sources -= 1
        elif sources > 0 and kind < 0.75:
            den = rng.randint(1, 6)
            bus = rng.randint(2, 8) if not buses and rng.random() < 0.4 else 0
            rate = Rate(rng.choice([1, 1, 2]), rng.randint(1, rng.choice([1, 1, den])), den)
            lanes.append(Road(rng.randint(0, 4), rate=rate, bus=bus))
            buses = buses or bus > 0
            sources -= 1
        else:
            lanes.append(Road(rng.randint(0, 4)))
    return lanes


def random_streets(rng, sites, many):
    """Up to so many streets between lanes where they can be."""
    roads = [(place, stream) for place, site in enumerate(sites) for stream, lane in enumerate(site.lanes)
             if isinstance(lane, Road)]
    starts, ends = list(roads), [pair for pair in roads if sites[pair[0]].lanes[pair[1]].rate is None]
    rng.shuffle(starts), rng.shuffle(ends)
    return [Street(start, end, rng.randint(1, 3)) for start, end in list(zip(starts, ends))[:many]]


def calm_book(rng, crossing, length, tries=60):
    """A book, after some tries one in which rivals are never near and every stream can become green."""
    for _ in range(tries):
        book = random_book(rng, crossing, length)
        streams = [stream for phase in [book.main, *book.phases] for stream in phase.green]
        if len(set(streams)) == len(crossing) and near_pair(book) is None:
            break
    return book


def random_town(rng, most_sites=3, most_streams=3, lengths=(3, 4, 5), sources=3, streets=2, calm=0.0):
    """A town of any kind; calm is the part of the towns whose books are calm."""
    length, sites, make = rng.choice(lengths), [], calm_book if rng.random() < calm else random_book
    for _ in range(rng.randint(1, most_sites)):
        crossing = random_crossing(rng, rng.randint(1, most_streams), 2)
        lanes = random_lanes(rng, len(crossing), sources)
        sources -= sum(isinstance(lane, Foot) or lane.rate is not None for lane in lanes)
        sites.append(Site(make(rng, crossing, length), lanes))
    offsets = [rng.randrange(length) for _ in sites]
    return Town(sites, offsets, random_streets(rng, sites, rng.randint(0, streets)))


def random_towns(seed, count, **more):
    """Random towns, always the same for the same numbers."""
    rng = random.Random(seed)
    for _ in range(count):
        yield random_town(rng, **more)


def walked(town, start, most=100000):
    """All states from one on with the least of the shortest rows to each, and the least of those that break.

    Returns the dict of the rows by states, and the pair of the breaking row and its breaks, or None; or None for all
    of it if there are more than so many states.
    """
    rows, level, broken = {start: []}, [start], None
    while level:
        later = {}
        for state in level:
            for comings in comings_list(town, state):
                row = rows[state] + [comings]
                wrong = breaks(town, state, comings)
                if wrong:
                    broken = min(broken or (len(row), row, wrong), (len(row), row, wrong))
                else:
                    found = after(town, state, comings)
                    if found not in rows:
                        later[found] = min(row, later.get(found, row))
        rows.update(later)
        level = list(later)
        if len(rows) > most:
            return None
    return rows, None if broken is None else (broken[1], tuple(broken[2]))


def front_lines(rng, length, names):
    """The lines of a site from which streets can start."""
    greens = rng.randint(1, length - 1)
    rates = [f"{rng.choice([1, 1, 2])} 1/{rng.choice([length, length, length + 1])}" for _ in names]
    return ["site 0", *[f"stream {name} road {rng.choice([1, 2, 9])} rate {rate}" for name, rate in zip(names, rates)],
            f"main {greens} 0 : {rng.choice(names)}",
            f"phase {length - greens} {length - greens} 0 : {' '.join(names)}"]


def back_lines(rng, length, foot):
    """The lines of a site at which streets can end, perhaps with a foot lane."""
    lines = ["site 0", *[f"stream {name} road {rng.choice([0, 0, 1, 1, 2])}" for name in "cd"]]
    if foot:
        return [*lines, "stream f foot 12", "main 1 0 : c d", "phase 1 1 0 : f ? f",
                f"phase {length - 2} {length - 2} 0 : {rng.choice(['c', 'd', 'c d'])}"]
    greens = rng.randint(1, length - 1)
    return [*lines, f"main {greens} 0 : {rng.choice(['c', 'c d'])}",
            f"phase {length - greens} {length - greens} 0 :{rng.choice([' d', ' c d', ''])}"]


def tiered_town(rng):
    """A tiered town: one street or two between two sites, or two streets between three sites."""
    length, kind = rng.choice((3, 3, 4)), rng.randrange(4)
    travels = [rng.randint(1, 3), rng.randint(1, 3)]
    if kind == 0:
        lines = [*front_lines(rng, length, "a"), *back_lines(rng, length, rng.random() < 0.5),
                 f"street 0 a 1 c {travels[0]}"]
    elif kind == 1:
        lines = [*back_lines(rng, length, False), *front_lines(rng, length, "ab"), f"street 1 a 0 c {travels[0]}",
                 f"street 1 b 0 d {travels[1]}"]
    elif kind == 2:
        lines = [*front_lines(rng, length, "ab"), *back_lines(rng, length, False), *back_lines(rng, length, False),
                 f"street 0 a 1 c {travels[0]}", f"street 0 b 2 d {travels[1]}"]
    else:
        lines = [*front_lines(rng, length, "a"), *back_lines(rng, length, False), *front_lines(rng, length, "b"),
                 f"street 0 a 1 c {travels[0]}", f"street 2 b 1 d {travels[1]}"]
    return town_of([f"round {length}", *lines])


# Three streets with the good differences 0 1, 1 2 and 0 2: every two of them go together, but not all three.
CASES = ["round 3", "site 0", *[f"stream {name} road 2 rate 1 1/3" for name in "abc"], "main 2 0 :",
         "phase 1 1 0 : a b c", "site 0", *[f"stream {name} road 0" for name in "def"], "main 1 0 :",
         "phase 2 2 0 : d e f", "street 0 a 1 d 1", "street 0 b 1 e 2", "street 0 c 1 f 3"]
