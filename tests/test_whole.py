"""The whole program: the interface behind the points, and points [1] to [3]."""

import importlib
import inspect
import pathlib
import re

import crossinglights
from crossinglights.arranging import arrange
from crossinglights.beats import Beats
from crossinglights.books import Book
from crossinglights.changes import change, least_lost, least_walk, lost
from crossinglights.commands import replay, run, would
from crossinglights.crossings import Crossing
from crossinglights.desks import Desk
from crossinglights.enough import least_enough, load, needed_greens
from crossinglights.errors import LightsError
from crossinglights.lanes import Foot, Road
from crossinglights.ledgers import ledger
from crossinglights.leastrounds import least_round
from crossinglights.lights import next_lights, quiet
from crossinglights.netrings import broken, check_setting, is_ring, misses, ring_sum
from crossinglights.nets import Net
from crossinglights.orders import earliest, least_length, ring_need, tightest
from crossinglights.phases import Phase
from crossinglights.plannets import plan_net
from crossinglights.plans import Plan
from crossinglights.playing import play
from crossinglights.queues import run_queue
from crossinglights.rates import Rate
from crossinglights.rowtext import row_text
from crossinglights.settling import settle
from crossinglights.sites import Site
from crossinglights.stages import is_stage
from crossinglights.states import comings_list, first_state
from crossinglights.streets import Street
from crossinglights.towns import Town
from crossinglights.trials import trial
from crossinglights.verdicts import judge
from tests.support import Case
from tests.townmodel import BREACH, CALLS, CASES, MIXED, town_of

FUNCTIONS = """
names: is_name(text)
stages: is_stage(crossing, streams); stages(crossing); greatest_stages(crossing); greatest_crowd(crossing);
 fewest_stages(crossing); bare_ring(crossing)
changes: change(crossing, before, after); lost(crossing, stages); least_lost(crossing, stages);
 least_walk(crossing, streams)
plannets: plan_net(crossing, length, greens)
orders: ring_need(crossing, greens, order, ring); tightest(crossing, greens, order);
 least_length(crossing, greens, order); earliest(crossing, length, greens, order)
leastrounds: least_round(crossing, greens)
enough: needed_greens(length, rates); least_enough(crossing, rates, order); load(rates, streams)
netrings: check_setting(net, setting); broken(net, setting); is_ring(net, ring); ring_sum(net, ring); misses(net, ring);
 rings(net)
settling: settle(net)
spreads: spread(net, first, second); count_settings(net); needless(net)
queues: run_queue(green, begin, row, start=0)
depths: depth(rate, green)
windows: widest(rate, green)
waits: longest_wait(rate, green)
behind: depth_behind(rate, first, second, shift); good_shifts(rate, first, second, capacity)
lights: shown(book, lights); next_lights(book, lights, came=(), waiting=(), bus=None); quiet(book)
openlights: successors(book, lights, *, call=None, buses=True); open_lights(book, *, buses=True);
 closest(book, first, second, *, buses=True); near_pair(book, *, buses=True);
 longest_call(book, stream, *, buses=True)
bookplans: book_of(plan); plan_of(book)
states: first_state(town); comings_list(town, state); green_lanes(town, state)
stepping: after(town, state, comings); breaks(town, state, comings); leaving(town, state, comings)
playing: play(town, row)
verdicts: judge(town, most=500)
shorttables: last_lanes(town); rest_of(town, state); short_table(town, most=500)
risks: breach_from(town, state, most=500)
pairs: alone(town, site); pair_town(town, street, difference); good_differences(town, street, most=500);
 street_net(town, most=500)
arranging: arrange(town, most=500)
trials: trial(town, most=500)
least: least(town, number, part, most=500)
towntext: town_text(town); read_town(text)
rowtext: row_text(row); read_row(text, width)
commands: run(desk, text, *, whole=False); would(desk, text); replay(town, entries, *, memory=50, most=500)
ledgers: ledger(desk)
"""

METHODS = """
beats Beats(length, members): every(length) none(length) window(length,low,high) within(other) unfolded(k) runs() step()
 __len__ __iter__ __contains__ __bool__ __eq__ __or__ __and__ __xor__ __invert__ __add__ __sub__ __neg__ __rshift__
 __lshift__ __mul__ __rmul__ __mod__
crossings Crossing(streams, rivals): index(name) span(first,second) longest(stream) __len__ __eq__
plans Plan(crossing, length, begins, greens): green_beats(stream) shown(beat) gap(first,second) turned(beats) __eq__
nets Net(length, nodes, ties): plus(*ties) without(*numbers) pieces() plain __eq__
settling Settling(net): told()
settling Miss: told()
settling Setting: told()
settling Cases: leaf(setting) told() __len__
rates Rate(burst, num, den): after(credit,came) lets(row) greatest(beats) greedy(beats) full __eq__
depths Course(rate, green): told()
depths Depth: height(beat,credit) told()
depths Growth: told()
phases Phase(green, *, least=1, most=None, pause=0, holds=(), calls=(), yields=False): __eq__
books Book(crossing, length, main, phases): phase(number) fixed __len__ __eq__
lanes Lane(bound): told() foot
lanes Foot(bound): told() __eq__
lanes Road(capacity, *, rate=None, bus=0): told() __eq__
sites Site(book, lanes): __eq__
streets Street(start, end, travel): __eq__
towns Town(sites, offsets, streets): lane_number(site,stream) pair(number) lane(number) at(offsets) turned(beats)
 changed(number,**more) tiered __len__ __eq__
verdicts Verdict(town): told()
verdicts Table: states() row_to(state) greatest(lane) longest(lane) told() __len__ __contains__ __iter__
verdicts Breach: told()
shorttables Short: rests() heights(rest) told() __len__ __contains__
leastrounds LeastRound:
enough Enough:
arranging Arrangement:
trials Trial:
least Least:
desks Desk(town, *, memory=50, most=500): tell(*lanes,bus=()) wait(beats) follow(row) back(name) mark(name) risk()
 worst() undo() redo() remember(number) __getitem__ __len__ now state came left memory marks log
"""


def module(name):
    return importlib.import_module("crossinglights." + name)


def modules():
    """All modules of the package."""
    folder = pathlib.Path(crossinglights.__file__).parent
    return [module(path.stem) for path in sorted(folder.glob("*.py")) if path.stem != "__init__"]


def entries(text):
    """The lines of a text, those that begin with a space behind those before them."""
    return text.strip().replace("\n ", " ").split("\n")


class InterfaceTest(Case):
    """All that the interface lists exists under its name, in its file."""

    def test_functions(self):
        count = 0
        for entry in entries(FUNCTIONS):
            file, listed = entry.split(": ", 1)
            for signature in listed.split(";"):
                name = signature.strip().split("(")[0]
                function = vars(module(file))[name]
                self.assertTrue(inspect.isfunction(function), name)
                self.assertEqual(function.__module__, "crossinglights." + file)
                self.assertEqual(name + str(inspect.signature(function)), signature.strip())
                count += 1
        self.assertEqual(count, 73)

    def test_classes(self):
        for entry in entries(METHODS):
            head, listed = entry.split(":", 1)
            file, signature = head.split(" ", 1)
            name = signature.split("(")[0]
            made = vars(module(file))[name]
            self.assertTrue(inspect.isclass(made), name)
            self.assertEqual(made.__module__, "crossinglights." + file)
            if "(" in signature:
                self.assertEqual(name + str(inspect.signature(made)), signature)
            for method in listed.split():
                self.check_method(made, method)

    def check_method(self, made, method):
        """A method stands in the class itself, with its parameters, or is a property of it."""
        name = method.split("(")[0]
        self.assertIn(name, vars(made), made)
        if "(" in method:
            bound = getattr(made, name) if isinstance(vars(made)[name], staticmethod) else vars(made)[name]
            parameters = str(inspect.signature(bound)).replace("self, ", "").replace("self", "").replace(", ", ",")
            self.assertEqual(name + parameters, method)
        elif not name.startswith("__"):
            self.assertIsInstance(vars(made)[name], property)

    def test_subclasses(self):
        for file, base, names in (("settling", "Settling", "Miss Setting Cases"), ("depths", "Course", "Depth Growth"),
                                  ("lanes", "Lane", "Foot Road"), ("verdicts", "Verdict", "Table Breach")):
            for name in names.split():
                self.assertTrue(issubclass(getattr(module(file), name), getattr(module(file), base)))
        self.assertTrue(issubclass(module("shorttables").Short, module("verdicts").Verdict))


class ErrorsTest(Case):
    """The errors of the whole program stand side by side."""

    def test_all_errors_stand_in_one_file(self):
        for found in modules():
            for name, made in inspect.getmembers(found, inspect.isclass):
                if issubclass(made, BaseException) and made.__module__.startswith("crossinglights"):
                    self.assertEqual(made.__module__, "crossinglights.errors", name)
                    self.assertEqual(made.__bases__, (ValueError,) if made is LightsError else (LightsError,), name)

    def test_only_errors_of_the_package_are_raised(self):
        folder = pathlib.Path(crossinglights.__file__).parent
        names = {name for name, _ in inspect.getmembers(module("errors"), inspect.isclass)}
        for path in folder.glob("*.py"):
            raised = set(re.findall(r"raise ([A-Z]\w+)", path.read_text()))
            self.assertLessEqual(raised - {"TypeError"}, names, path)


class TupleTest(Case):
    """Wherever a list is passed, a tuple of the same entries can be passed, too."""

    def assert_alike(self, call, *args):
        """A call gives the same for lists and for tuples, and does not change what it is passed."""
        lists = [list(arg) if isinstance(arg, (list, tuple)) else arg for arg in args]
        tuples = [tuple(arg) if isinstance(arg, (list, tuple)) else arg for arg in args]
        kept = [list(arg) if isinstance(arg, list) else arg for arg in lists]
        self.assertEqual(call(*lists), call(*tuples))
        self.assertEqual(lists, kept)

    def test_crossings(self):
        rivals = [(0, 1, 1, 2), (0, 2, 0, 1)]
        self.assert_alike(Crossing, ["a", "b", "c"], rivals)
        crossing = Crossing(["a", "b", "c"], rivals)
        for call, *args in ((is_stage, [1, 2]), (change, [0], [2, 1]), (lost, [[0], [1, 2]]),
                            (least_lost, [[0], [1], [2]]), (least_walk, [1, 0])):
            self.assert_alike(call, crossing, *args)
        self.assert_alike(Plan, crossing, 6, [0, 3, 3], [2, 1, 1])
        self.assert_alike(plan_net, crossing, 6, [2, 1, 1])
        self.assert_alike(ring_need, crossing, [2, 1, 1], [0, 1, 2], [0, 2, 1])
        self.assert_alike(tightest, crossing, [2, 1, 1], [0, 1, 2])
        self.assert_alike(least_length, crossing, [2, 1, 1], [0, 1, 2])
        self.assert_alike(earliest, crossing, 6, [2, 1, 1], [0, 1, 2])
        self.assertEqual(least_round(crossing, (2, 1, 1)).rings, least_round(crossing, [2, 1, 1]).rings)
        rates = [Rate(1, 1, 3), None, Rate(1, 1, 4)]
        self.assert_alike(needed_greens, 6, rates)
        self.assert_alike(load, rates, [0, 2])
        self.assertEqual(least_enough(crossing, tuple(rates), (0, 1, 2)).plan,
                         least_enough(crossing, rates, [0, 1, 2]).plan)

    def test_nets_and_queues(self):
        ties = [(0, 1, Beats(5, [1])), (1, 2, Beats(5, [1, 2])), (2, 0, Beats(5, [2, 3]))]
        self.assert_alike(Beats, 5, [1, 7])
        self.assert_alike(Net, 5, 3, ties)
        net = Net(5, 3, ties)
        self.assertEqual(settle(Net(5, 3, tuple(ties))).told(), settle(net).told())
        for call, arg in ((check_setting, [0, 1, 2]), (broken, [0, 1, 3]), (is_ring, [(0, 1), (1, 1), (2, 1)]),
                          (ring_sum, [(0, 1), (1, 1), (2, 1)]), (misses, [(0, 1), (0, -1)])):
            self.assert_alike(call, net, arg)
        self.assert_alike(run_queue, Beats(4, [0, 1]), 2, [1, 0, 1])
        self.assert_alike(Rate(1, 1, 2).lets, [1, 0, 1])

    def test_towns(self):
        crossing = Crossing(["a", "b"], [])
        self.assertEqual(Phase([1, 0], holds=[0], calls=[1]), Phase((1, 0), holds=(0,), calls=(1,)))
        book = Book(crossing, 4, Phase([0]), [Phase([1], calls=[1])])
        self.assert_alike(Book, crossing, 4, Phase([0]), [Phase([1], calls=[1])])
        self.assert_alike(next_lights, book, (3, 0, 0), [1], [1], 0)
        self.assertEqual(next_lights(book, (3, 0, 0), waiting=(1,)), next_lights(book, (3, 0, 0), waiting=[1]))
        self.assert_alike(Site, book, [Road(1), Foot(8)])
        site = Site(book, [Road(1), Road(2)])
        self.assert_alike(Town, [site, site], [0, 1], [Street((0, 0), (1, 1), 2)])
        self.assert_alike(Town([site, site], [0, 1], []).at, [3, 2])
        self.assertEqual(len(quiet(book)), 4)

    def test_rows_and_desks(self):
        town = town_of(MIXED)
        row = [(1, 0, 1, 0, 2), (0,) * 5]
        self.assert_alike(play, town, row)
        self.assert_alike(row_text, row)
        one, other = Desk(town), Desk(town)
        one.follow(row), other.follow(tuple(row)), one.tell(0, bus=[]), other.tell(0, bus=())
        self.assertEqual((one.state, one.log), (other.state, other.log))
        self.assertEqual(replay(town, ("wait 1", "tell 0")).state, replay(town, ["wait 1", "tell 0"]).state)


class UnchangedTest(Case):
    """Calls do not change what they are passed, and two objects are equal only where a point says so."""

    def test_towns_and_states(self):
        for lines in (MIXED, CALLS, BREACH, CASES):
            town, state = town_of(lines), first_state(town_of(lines))
            desk = Desk(town)
            comings_list(town, state), ledger(desk), would(desk, "wait 1\ntell 0"), desk[0]
            if town.tiered:
                arrange(town, 5000)
            if lines != MIXED:
                judge(town), trial(town, 5000)
            self.assertEqual((town, state, desk.state), (town_of(lines), first_state(town), state))
            self.assertEqual((desk.now, desk.log, desk.marks), (0, [], []))

    def test_objects_that_are_never_equal(self):
        town = town_of(CALLS)
        self.assertNotEqual(judge(town), judge(town))
        self.assertNotEqual(judge(town_of(BREACH)), judge(town_of(BREACH)))
        self.assertNotEqual(Desk(town), Desk(town))
        self.assertNotEqual(trial(town), trial(town))
        net = Net(3, 1, [])
        self.assertNotEqual(settle(net), settle(net))

    def test_a_run_that_raises(self):
        desk = Desk(town_of(CALLS))
        with self.assertRaises(LightsError):
            run(desk, "x")
        self.assertEqual((desk.now, desk.log), (0, []))
