"""Desks: points [78] to [82]."""

import random

from crossinglights.desks import Desk
from crossinglights.errors import (BadNumber, Broken, LightsError, NotComing, NothingToRedo, NothingToUndo, TooMany,
                                   UnknownLane, UnknownName)
from crossinglights.risks import breach_from
from crossinglights.rowtext import read_row, row_text
from crossinglights.states import comings_list, first_state, green_lanes
from crossinglights.stepping import after, breaks
from crossinglights.verdicts import judge
from tests.support import Case
from tests.townmodel import BREACH, CALLS, MIXED, SMALL, Model, random_towns, town_of, walked


def told(desk):
    """All that a desk tells."""
    return (desk.now, desk.state, desk.came, desk.left, desk.memory, desk.marks, desk.log)


def standing(desk):
    return (desk.now, desk.state, desk.came, desk.left)


def undoable(desk):
    """How many deeds can be taken back; all of them are done again."""
    count = 0
    while True:
        try:
            desk.undo()
        except NothingToUndo:
            break
        count += 1
    for _ in range(count):
        desk.redo()
    return count


class FakeDesk:
    """A second account of a desk: all standings are kept, with the number of deeds that can be taken back."""

    def __init__(self, town, memory):
        self.town, self.memory = town, memory
        self.model = Model(town)
        self.done, self.can, self.undone, self.marks = [], 0, [], {}

    def told(self):
        model = self.model
        return (model.now, model.state(), tuple(model.came), tuple(model.left), self.memory, sorted(self.marks),
                [entry for entry, _, _ in self.done])

    def do(self, entry, model):
        self.done.append((entry, self.model, model))
        self.model, self.undone = model, []
        self.can = min(self.can + 1, self.memory)

    def beats(self, entry, row):
        model = self.model.copy()
        for place, comings in enumerate(row):
            if comings not in model.comings():
                return NotComing, {"place": place}
            _, wrong = model.beat(comings)
            if wrong:
                return Broken, {"place": place, "breaks": tuple(wrong)}
        self.do(entry, model)
        return None

    def tell(self, lanes, bus):
        seen = []
        for lane in [*lanes, *bus]:
            if lane not in range(len(self.town)) or lane in seen:
                return UnknownLane, {"number": lane}
            seen.append(lane)
        comings = tuple(2 if lane in bus else 1 if lane in lanes else 0 for lane in range(len(self.town)))
        entry = " ".join(["tell", *map(str, sorted(lanes))] + (([">", *map(str, sorted(bus))]) if bus else []))
        return self.beats(entry, [comings])

    def back(self, name):
        if name not in self.marks:
            return UnknownName, {"name": name}
        self.do("back " + name, self.marks[name])
        return None

    def undo(self):
        if self.can == 0:
            return NothingToUndo, {}
        deed = self.done.pop()
        self.undone.append(deed)
        self.model, self.can = deed[1], self.can - 1
        return None

    def redo(self):
        if not self.undone:
            return NothingToRedo, {}
        deed = self.undone.pop()
        self.done.append(deed)
        self.model, self.can = deed[2], min(self.can + 1, self.memory)
        return None

    def remember(self, number):
        if not 0 <= number <= 200:
            return BadNumber, {"number": number}
        self.memory, self.can = number, min(self.can, number)
        return None


class RandomDesksTest(Case):
    """All calls of a desk, against a second account."""

    def act(self, rng, desk, fake):
        """Do one thing on both desks."""
        lanes = len(desk)
        kind = rng.randrange(10)
        if kind < 3:
            told_lanes = [lane for lane in range(lanes) if rng.random() < 0.4]
            if rng.random() < 0.1:
                told_lanes = rng.sample(range(-1, lanes + 1), rng.randint(0, 2))
            rng.shuffle(told_lanes)
            bus = [told_lanes.pop()] if told_lanes and rng.random() < 0.3 else []
            return fake.tell(told_lanes, bus), lambda: desk.tell(*told_lanes, bus=bus)
        if kind == 3:
            beats = rng.randint(1, 3)
            return fake.beats(f"wait {beats}", [(0,) * lanes] * beats), lambda: desk.wait(beats)
        if kind == 4:
            row = [rng.choice(fake.model.comings()) for _ in range(rng.randint(1, 3))]
            return fake.beats("follow " + row_text(row), row), lambda: desk.follow(row)
        if kind == 5:
            name = rng.choice(["a", "b", "c"])
            if rng.random() < 0.6:
                fake.marks[name] = fake.model
                return None, lambda: desk.mark(name)
            return fake.back(name), lambda: desk.back(name)
        if kind < 8:
            return fake.undo(), desk.undo
        if kind == 8:
            return fake.redo(), desk.redo
        number = rng.choice([0, 1, 2, 3, 5, 200, 201, -1]) if rng.random() < 0.3 else 50
        return fake.remember(number), lambda: desk.remember(number)

    def test_random_desks(self):
        rng, seen = random.Random(78), {}
        for town in random_towns(79, 80, calm=1.0, most_sites=2):
            memory = rng.choice([0, 1, 2, 3, 50])
            desk, fake = Desk(town, memory=memory), FakeDesk(town, memory)
            for _ in range(60):
                before = told(desk)
                wrong, call = self.act(rng, desk, fake)
                if wrong is None:
                    self.assertIsNone(call())
                else:
                    self.assert_fails(wrong[0], wrong[1], call)
                    self.assertEqual(told(desk), before)
                    seen[wrong[0].__name__] = seen.get(wrong[0].__name__, 0) + 1
                self.assertEqual(told(desk), fake.told())
        self.assertEqual(sorted(seen), ["BadNumber", "Broken", "NotComing", "NothingToRedo", "NothingToUndo",
                                        "UnknownLane", "UnknownName"])


class MakingTest(Case):
    """Point [78]: making a desk."""

    def test_a_new_desk(self):
        town = town_of(MIXED)
        desk = Desk(town)
        self.assertEqual(told(desk), (0, first_state(town), (0,) * 5, (0,) * 5, 50, [], []))
        self.assertIs(desk.town, town)
        self.assertEqual(Desk(town, memory=7).memory, 7)
        self.assertEqual([Desk(town, memory=number, most=most).memory for number, most in ((0, 1), (200, 5000))],
                         [0, 200])

    def test_wrong_numbers(self):
        for number in (-1, 201, 10 ** 9):
            for most in (1, 0):
                with self.assertRaises(BadNumber) as caught:
                    Desk(town_of(SMALL), memory=number, most=most)
                self.assertEqual(caught.exception.number, number)
        for most in (0, 5001, -10 ** 9):
            self.assert_fails(BadNumber, {"number": most}, lambda most=most: Desk(town_of(SMALL), most=most))


class DeedsTest(Case):
    """Points [78] and [79]: deeds, and what the desk tells."""

    def assert_unchanged(self, desk, error, attributes, call, *args, **more):
        before = told(desk), undoable(desk)
        self.assert_fails(error, attributes, lambda: call(*args, **more))
        self.assertEqual((told(desk), undoable(desk)), before)

    def test_tell(self):
        desk = Desk(town_of(MIXED))
        self.assertIsNone(desk.tell(2, 0, bus=[4]))
        state = after(town_of(MIXED), first_state(town_of(MIXED)), (1, 0, 1, 0, 2))
        # Lanes 0 and 4 are green in the first beat.
        self.assertEqual(standing(desk), (1, state, (1, 0, 1, 0, 1), (1, 0, 0, 0, 1)))
        desk.tell()
        desk.tell(0, bus=())
        self.assertEqual((desk.now, desk.came, desk.log), (3, (2, 0, 1, 0, 1), ["tell 0 2 > 4", "tell", "tell 0"]))
        other = Desk(town_of(MIXED))
        other.tell(bus=(4,))
        self.assertEqual((other.log, other.came), (["tell > 4"], (0, 0, 0, 0, 1)))

    def test_unknown_lanes(self):
        desk = Desk(town_of(MIXED))
        desk.wait(2)
        for lanes, bus, wrong in (((5,), [], 5), ((-1,), [9], -1), ((0, 0), [], 0), ((0, 1, 7, 0), [], 7),
                                  ((0,), [0], 0),
                                  ((1, 2), [4, 4], 4), ((), [5], 5), ((0,), (4, 0), 0), ((3, 3, 10 ** 9), [], 3)):
            self.assert_unchanged(desk, UnknownLane, {"number": wrong}, desk.tell, *lanes, bus=bus)

    def test_tell_what_cannot_come_or_breaks(self):
        desk = Desk(town_of(MIXED))
        for lanes, bus in (((1,), []), ((3,), []), ((), [0]), ((), [2]), ((0, 1), [4])):
            self.assert_unchanged(desk, NotComing, {"place": 0}, desk.tell, *lanes, bus=bus)
        desk.tell(bus=[4])
        self.assert_unchanged(desk, NotComing, {"place": 0}, desk.tell, bus=[4])
        desk = Desk(town_of(BREACH))
        desk.tell(0), desk.wait(1)
        self.assert_unchanged(desk, Broken, {"place": 0, "breaks": (("full", 0),)}, desk.tell, 0)

    def test_wait(self):
        desk, town = Desk(town_of(MIXED)), town_of(MIXED)
        desk.tell(0)
        self.assertIsNone(desk.wait(3))
        self.assertEqual((desk.now, desk.state[7], desk.came, desk.log), (4, ((0, 0, 0),), (1, 0, 0, 1, 0),
                                                                       ["tell 0", "wait 3"]))
        desk.wait(60)
        self.assertEqual((desk.now, desk.state[:2]), (64, (4, first_state(town.at([2, 4]))[1])))
        for beats in (0, -1, 61, 10 ** 9):
            self.assert_unchanged(desk, BadNumber, {"number": beats}, desk.wait, beats)

    def test_wait_until_something_breaks(self):
        lines = [line.replace("foot 4", "foot 3") for line in CALLS]
        row = judge(town_of(lines)).row
        place = max(k for k in range(len(row)) if any(row[k]))
        desk = Desk(town_of(lines))
        desk.follow(row[:place + 1])
        beats = len(row) - place - 1
        self.assertGreater(beats, 0)
        self.assert_unchanged(desk, Broken, {"place": beats - 1, "breaks": (("late", 1),)}, desk.wait, 60)
        self.assert_unchanged(desk, Broken, {"place": beats - 1, "breaks": (("late", 1),)}, desk.wait, beats)
        if beats > 1:
            desk.wait(beats - 1)
        self.assertEqual(desk.risk(), 1)

    def test_follow(self):
        town = town_of(SMALL)
        desk, row = Desk(town), [(1, 1), (0, 0), (0, 0), (0, 1)]
        self.assertIsNone(desk.follow(row))
        self.assertEqual((desk.now, desk.came, desk.left, desk.log), (4, (1, 2), (1, 0), ["follow 11 2*00 01"]))
        self.assertEqual(row, [(1, 1), (0, 0), (0, 0), (0, 1)])
        other = Desk(town)
        other.follow(tuple(row))
        self.assertEqual(told(other), told(desk))
        for count in (0, 201, 300):
            self.assert_unchanged(desk, BadNumber, {"number": count}, desk.follow, [(9,)] * count)
        calm = Desk(town_of(CALLS))
        calm.follow([(0, 0)] * 200)
        self.assertEqual((calm.now, calm.log), (200, ["follow 200*00"]))
        self.assert_unchanged(desk, NotComing, {"place": 1}, desk.follow, [(0, 0), (2, 0)])
        self.assert_unchanged(desk, NotComing, {"place": 0}, desk.follow, [(0,)])
        broken = Desk(town_of(BREACH))
        self.assert_unchanged(broken, Broken, {"place": 2, "breaks": (("full", 0),)}, broken.follow,
                              [(1, 0), (0, 0), (1, 0), (5, 5)])

    def test_calls_that_come_while_one_is_waiting_or_on_a_green_lane(self):
        desk = Desk(town_of(["round 2", "site 0", "stream a foot 9", "stream b foot 9", "main 2 0 : a"]))
        desk.follow([(1, 1), (1, 1), (1, 0)])
        self.assertEqual((desk.came, desk.left, desk.state[5]), ((3, 2), (0, 0), (0, 3)))

    def test_marks_and_back(self):
        desk = Desk(town_of(MIXED))
        self.assertIsNone(desk.mark("zebra"))
        desk.tell(0, 2)
        first = standing(desk)
        desk.mark("a")
        self.assertEqual((desk.marks, desk.log), (["a", "zebra"], ["tell 0 2"]))
        desk.wait(2)
        self.assertIsNone(desk.back("a"))
        self.assertEqual((standing(desk), desk.log), (first, ["tell 0 2", "wait 2", "back a"]))
        desk.wait(1)
        desk.mark("a")
        second = standing(desk)
        desk.back("zebra")
        self.assertEqual((desk.now, desk.came), (0, (0,) * 5))
        desk.back("a")
        self.assertEqual(standing(desk), second)
        for name in ("b", "", "A", "abcdefghi", "zebra "):
            self.assert_unchanged(desk, UnknownName, {"name": name}, desk.back, name)
        for name in ("", "A", "abcdefghi", "a1", "a b", "a "):
            self.assert_unchanged(desk, UnknownName, {"name": name}, desk.mark, name)

    def test_items(self):
        town = town_of(MIXED)
        desk = Desk(town)
        self.assertEqual(len(desk), 5)
        for row in ((), (0, 2), (0,), (2,)):
            desk.tell(*row)
            state = desk.state
            for lane in range(5):
                self.assertEqual(desk[lane], (state[3][lane], state[5][lane], lane in green_lanes(town, state)))
                self.assertIs(type(desk[lane][2]), bool)
        for lane in (-1, 5, 10 ** 9, -5):
            self.assert_fails(UnknownLane, {"number": lane}, lambda lane=lane: desk[lane])

    def test_lists_are_new(self):
        desk = Desk(town_of(MIXED))
        desk.tell(0), desk.mark("a")
        desk.log.clear(), desk.marks.append("b")
        self.assertEqual((desk.log, desk.marks), (["tell 0"], ["a"]))
        bus = [4]
        desk.tell(bus=bus)
        bus.append(3)
        self.assertEqual((bus, desk.log), ([4, 3], ["tell 0", "tell > 4"]))
        self.assertEqual(desk.town, town_of(MIXED))

    def test_desks_do_not_share(self):
        one, other = Desk(town_of(MIXED)), Desk(town_of(MIXED))
        one.tell(0), one.mark("a")
        self.assertEqual(told(other), told(Desk(town_of(MIXED))))


class UndoTest(Case):
    """Point [81]."""

    def desk_of(self, count, **more):
        """A desk with so many deeds, and the standings before and behind all of them."""
        desk = Desk(town_of(CALLS), **more)
        standings = [standing(desk)]
        for number in range(count):
            desk.wait(number + 1) if number != 1 else desk.tell(1)
            standings.append(standing(desk))
        return desk, standings

    def test_undo_and_redo(self):
        desk, standings = self.desk_of(3)
        log = desk.log
        for number in (2, 1, 0):
            self.assertIsNone(desk.undo())
            self.assertEqual((standing(desk), desk.log), (standings[number], log[:number]))
        self.assert_fails(NothingToUndo, {}, desk.undo)
        for number in (1, 2, 3):
            self.assertIsNone(desk.redo())
            self.assertEqual((standing(desk), desk.log), (standings[number], log[:number]))
        self.assert_fails(NothingToRedo, {}, desk.redo)
        self.assertEqual(standing(desk), standings[3])

    def test_any_other_deed_forgets_what_was_taken_back(self):
        for call in (lambda desk: desk.tell(), lambda desk: desk.wait(1), lambda desk: desk.follow([(0, 0)]),
                     lambda desk: desk.back("m")):
            desk, standings = self.desk_of(3)
            desk.mark("m")
            desk.undo(), desk.undo()
            call(desk)
            self.assert_fails(NothingToRedo, {}, desk.redo)
            desk.undo()
            self.assertEqual(standing(desk), standings[1])

    def test_what_is_no_deed_forgets_nothing(self):
        desk, standings = self.desk_of(3)
        desk.undo()
        for call in (lambda: desk.tell(9), lambda: desk.wait(0), lambda: desk.follow([]), lambda: desk.back("x"),
                     lambda: desk.mark("A"), lambda: desk.remember(-1)):
            with self.assertRaises(LightsError):
                call()
        desk.mark("a"), desk.remember(9), desk.risk(), desk.worst()
        desk.redo()
        self.assertEqual(standing(desk), standings[3])

    def test_marks_and_memory_stay(self):
        desk, standings = self.desk_of(2)
        desk.mark("a")
        desk.memory = 30
        desk.undo()
        self.assertEqual((desk.marks, desk.memory), (["a"], 30))
        desk.back("a")
        self.assertEqual((standing(desk), desk.log[-1]), (standings[2], "back a"))
        desk.undo()
        self.assertEqual((standing(desk), desk.marks), (standings[1], ["a"]))

    def test_memory(self):
        for memory in (0, 1, 3, 7):
            desk, standings = self.desk_of(5, memory=memory)
            left = max(0, 5 - memory)
            self.assertEqual(undoable(desk), min(5, memory))
            for number in range(4, left - 1, -1):
                desk.undo()
                self.assertEqual(standing(desk), standings[number])
            self.assert_fails(NothingToUndo, {}, desk.undo)
            self.assertEqual((standing(desk), len(desk.log)), (standings[left], left))

    def test_changed_memory(self):
        for change in (Desk.remember, lambda desk, number: setattr(desk, "memory", number)):
            desk, standings = self.desk_of(5)
            self.assertIsNone(change(desk, 2))
            self.assertEqual((desk.memory, undoable(desk), len(desk.log)), (2, 2, 5))
            change(desk, 50)
            self.assertEqual(undoable(desk), 2)
            desk.undo(), desk.undo()
            self.assertEqual(standing(desk), standings[3])
            for number in (-1, 201, 10 ** 9):
                self.assert_fails(BadNumber, {"number": number}, change, desk, number)
            self.assertEqual(desk.memory, 50)
            for number in (0, 200):
                change(desk, number)
                self.assertEqual(desk.memory, number)

    def test_deeds_that_were_taken_back_do_not_count(self):
        desk, standings = self.desk_of(5)
        desk.undo(), desk.undo(), desk.undo()
        desk.remember(1)
        desk.redo(), desk.redo(), desk.redo()
        self.assertEqual((standing(desk), len(desk.log), undoable(desk)), (standings[5], 5, 1))
        desk.undo()
        desk.remember(0)
        desk.redo()
        self.assertEqual((standing(desk), undoable(desk)), (standings[5], 0))
        desk, standings = self.desk_of(4, memory=2)
        desk.undo(), desk.undo()
        self.assert_fails(NothingToUndo, {}, desk.undo)
        desk.redo(), desk.redo()
        self.assertEqual((standing(desk), undoable(desk)), (standings[4], 2))


class RiskTest(Case):
    """What point [80] says of a desk."""

    def test_risks(self):
        checked = set()
        for town in random_towns(81, 60, calm=0.9, most_sites=2, most_streams=2):
            found = walked(town, first_state(town), 60)
            if found is None:
                continue
            desk = Desk(town)
            row = None if found[1] is None else found[1][0]
            self.assertEqual((desk.worst(), desk.risk()), (row, None if row is None else len(row)))
            while row:
                if len(row) == 1:
                    self.assertTrue(breaks(town, desk.state, row[0]))
                    break
                desk.follow(row[:1])
                self.assertEqual(desk.worst(), breach_from(town, desk.state))
                self.assertEqual(desk.risk(), len(row) - 1)
                row = row[1:]
                checked.add(len(row))
        self.assertGreater(len(checked), 2)

    def test_a_risk_becomes_less_by_at_most_one(self):
        rng = random.Random(80)
        desk = Desk(town_of(BREACH))
        for _ in range(40):
            risk = desk.risk()
            comings = rng.choice(comings_list(desk.town, desk.state))
            if not breaks(desk.town, desk.state, comings):
                desk.follow([comings])
                self.assertGreaterEqual(desk.risk(), risk - 1)

    def test_without_a_risk(self):
        desk = Desk(town_of(CALLS))
        self.assertEqual((desk.risk(), desk.worst()), (None, None))
        desk.tell(0, 1)
        self.assertEqual((desk.risk(), desk.worst()), (None, None))

    def test_most(self):
        town = town_of(CALLS)
        desk = Desk(town, most=len(judge(town)))
        self.assertIsNone(desk.risk())
        desk = Desk(town, most=len(judge(town)) - 1)
        self.assert_fails(TooMany, {"number": len(judge(town)) - 1}, desk.risk)
        self.assert_fails(TooMany, {"number": len(judge(town)) - 1}, desk.worst)
        self.assertEqual(told(desk), told(Desk(town)))

    def test_each_row_is_new(self):
        desk = Desk(town_of(BREACH))
        desk.worst().clear()
        self.assertEqual(desk.worst(), [(1, 0), (0, 0), (1, 0)])


class LogTest(Case):
    """Point [82]."""

    def test_entries(self):
        desk = Desk(town_of(MIXED))
        desk.tell(2, 0, bus=[4]), desk.tell(), desk.wait(1), desk.mark("m")
        desk.follow(read_row("2*00000 00100", 5)), desk.back("m"), desk.tell(4)
        self.assertEqual(desk.log, ["tell 0 2 > 4", "tell", "wait 1", "follow 2*00000 00100", "back m", "tell 4"])
        desk.undo(), desk.undo()
        self.assertEqual(desk.log, ["tell 0 2 > 4", "tell", "wait 1", "follow 2*00000 00100"])
        desk.redo()
        self.assertEqual(desk.log[-1], "back m")

    def test_forgotten_deeds_stay_in_the_log(self):
        desk = Desk(town_of(CALLS), memory=1)
        desk.wait(1), desk.wait(2), desk.wait(3)
        desk.undo()
        self.assertEqual(desk.log, ["wait 1", "wait 2"])
        desk.remember(0)
        self.assertEqual(desk.log, ["wait 1", "wait 2"])

    def test_lanes_in_the_order_of_their_numbers(self):
        desk = Desk(town_of(["round 2", *["site 0", *[f"stream {name} road 1" for name in "abcdef"], "main 2 0 :"] * 2,
                             "site 0", "stream a foot 9", "stream b foot 9", "main 2 0 :"]))
        desk.tell(13, 12)
        self.assertEqual(desk.log, ["tell 12 13"])
