"""Commands: points [83] and [84]."""

import random

from crossinglights.commands import replay, run, would
from crossinglights.desks import Desk
from crossinglights.errors import (BadCommand, BadNumber, Broken, NotComing, NothingToRedo, NothingToUndo, UnknownLane,
                                   UnknownName)
from crossinglights.states import first_state
from tests.support import Case
from tests.test_desks import standing, told, undoable
from tests.townmodel import BREACH, CALLS, MIXED, SMALL, random_towns, town_of


def inside(desk):
    """All that a desk tells, and all standings that undo, redo and its marks lead to; the desk stays as it is."""
    found, undos = [told(desk)], undoable(desk)
    for _ in range(undos):
        desk.undo()
        found.append(told(desk))
    for _ in range(undos):
        desk.redo()
    redos = 0
    while True:
        try:
            desk.redo()
        except NothingToRedo:
            break
        redos += 1
        found.append(told(desk))
    for _ in range(redos):
        desk.undo()
    return found


class CommandsCase(Case):
    def desk(self, lines=CALLS, text="", **more):
        desk = Desk(town_of(lines), **more)
        run(desk, text)
        return desk

    def failure(self, call, *args, **more):
        """The BadCommand that a call raises."""
        with self.assertRaises(BadCommand) as caught:
            call(*args, **more)
        self.assertIs(type(caught.exception), BadCommand)
        self.assertEqual(list(vars(caught.exception)), ["number", "why"])
        self.assertIs(caught.exception.__cause__, caught.exception.why)
        return caught.exception

    def assert_no_command(self, number, call, *args, **more):
        error = self.failure(call, *args, **more)
        self.assertEqual((error.number, error.why), (number, None))

    def assert_raises(self, number, kind, attributes, call, *args, **more):
        error = self.failure(call, *args, **more)
        self.assertEqual((error.number, type(error.why), vars(error.why)), (number, kind, attributes))


class RunTest(CommandsCase):
    """run of point [83]."""

    def test_the_example(self):
        desk = Desk(town_of(SMALL))
        self.assertEqual([run(desk, "tell 1 0\nwait 1"), desk.now, desk.came, desk.left, desk[1], desk.log],
                         [2, 2, (1, 1), (1, 0), (0, 2, False), ["tell 0 1", "wait 1"]])

    def test_each_command(self):
        one, other = self.desk(MIXED), self.desk(MIXED)
        text = ["tell 2 0 > 4", "tell", "mark a", "wait 1", "follow 2*00000 10000", "back a", "undo", "redo", "tell 0",
                "tell > 4"]
        self.assertEqual(run(one, "\n".join(text[:-1])), 9)
        other.tell(2, 0, bus=[4]), other.tell(), other.mark("a"), other.wait(1)
        other.follow([(0,) * 5, (0,) * 5, (1, 0, 0, 0, 0)])
        other.back("a"), other.undo(), other.redo(), other.tell(0)
        self.assertEqual(inside(one), inside(other))
        self.assert_raises(1, NotComing, {"place": 0}, run, one, text[-1])

    def test_no_commands(self):
        desk = self.desk(text="wait 1")
        before = inside(desk)
        self.assertEqual((run(desk, ""), inside(desk)), (0, before))

    def test_lines_that_are_not_commands(self):
        for line in ("", " ", "stop", "wait", "wait ", "wait 1 ", " wait 1", "wait  1", "wait 01", "wait 1000",
                     "wait -1",
                     "wait a", "wait 1 1", "Wait 1", "tell 0 0x", "tell 00", "tell 1000", "tell -1", "tell a", "tell ",
                     "tell  0", "tell 0 ", "tell >", "tell 0 >", "tell 0 > ", "tell > 1 > 0", "tell > >", "tell 0 > a",
                     "tell 0 >1", "tell 0>1", "mark", "mark ", "mark A", "mark a1", "mark a b", "mark a ", "back",
                     "back a b", "back A", "back ", "undo 1", "undo ", "redo 1", "redo ", "Undo", "follow", "follow 0",
                     "follow 000", "follow 03", "follow  00", "follow 00 ", "follow   ", "follow 2*(",
                     "follow 2*( 00 ) )",
                     "follow 00 00 x", "follow 1001*00", "follow 999*00 2*00", "risk", "worst", "log",
                     "remember 3", "tell1",
                     "tell 0 1 >"):
            with self.subTest(line):
                desk = self.desk(text="wait 1\nundo")
                before = inside(desk)
                self.assert_no_command(1, run, desk, line + ("\nwait 1" if line == "" else ""))
                self.assertEqual(inside(desk), before)
                self.assert_no_command(3, run, desk, f"wait 1\nundo\n{line}\nwait 1")

    def test_calls_that_raise(self):
        for line, kind, attributes in (
                ("wait 0", BadNumber, {"number": 0}), ("wait 61", BadNumber, {"number": 61}),
                ("wait 999", BadNumber, {"number": 999}), ("tell 2", UnknownLane, {"number": 2}),
                ("tell 0 0", UnknownLane, {"number": 0}), ("tell 999", UnknownLane, {"number": 999}),
                ("tell 1 > 1", UnknownLane, {"number": 1}), ("tell > 0", NotComing, {"place": 0}),
                ("follow ", BadNumber, {"number": 0}), ("follow 1*( )", BadNumber, {"number": 0}),
                ("follow 201*00", BadNumber, {"number": 201}), ("follow 999*00 00", BadNumber, {"number": 1000}),
                ("follow 00 20", NotComing, {"place": 1}), ("back b", UnknownName, {"name": "b"}),
                ("back abcdefghijk", UnknownName, {"name": "abcdefghijk"}),
                ("mark abcdefghi", UnknownName, {"name": "abcdefghi"}), ("redo", NothingToRedo, {})):
            with self.subTest(line):
                desk = self.desk(text="mark a\nwait 1")
                before = inside(desk)
                self.assert_raises(1, kind, attributes, run, desk, line)
                self.assertEqual(inside(desk), before)
                self.assert_raises(2, kind, attributes, run, desk, f"wait 1\n{line}\n")
        self.assert_raises(1, NothingToUndo, {}, run, self.desk(), "undo")
        self.assert_raises(2, NothingToUndo, {}, run, self.desk(memory=0), "wait 1\nundo")
        full = {"place": 0, "breaks": (("full", 0),)}
        self.assert_raises(3, Broken, full, run, self.desk(BREACH), "tell 0\nwait 1\ntell 0")
        self.assert_raises(1, Broken, {**full, "place": 2}, run, self.desk(BREACH), "follow 10 00 10")

    def test_what_was_done_before_stays_done(self):
        desk = self.desk(text="wait 1")
        self.assert_no_command(4, run, desk, "tell 0\nmark a\nwait 2\nundo 1\nwait 3")
        self.assertEqual((desk.log, desk.marks), (["wait 1", "tell 0", "wait 2"], ["a"]))
        self.assert_raises(2, NothingToRedo, {}, run, desk, "wait 1\nredo")
        self.assertEqual(desk.log, ["wait 1", "tell 0", "wait 2", "wait 1"])

    def test_a_line_is_looked_at_when_its_turn_comes(self):
        desk = self.desk()
        self.assert_raises(1, BadNumber, {"number": 0}, run, desk, "wait 0\nnonsense")
        self.assert_no_command(1, run, desk, "nonsense\nwait 0")

    def test_whole(self):
        for text, number in (("tell 0\nmark b\nmark a\nwait 2\nundo\nundo\nundo\nnonsense", 8),
                             ("undo\nredo\nwait 0", 3), ("back a\nmark c\nredo", 3),
                             ("tell 1\nwait 60\nwait 60\nfollow 00 x", 4), ("x", 1)):
            desk = self.desk(text="tell 1\nmark a\nwait 3\nwait 2\nundo", memory=3)
            before = inside(desk)
            error = self.failure(run, desk, text, whole=True)
            self.assertEqual((error.number, inside(desk)), (number, before))
            desk.back("a")
            self.assertEqual(desk.now, 1)
        desk, other = self.desk(), self.desk()
        self.assertEqual(run(desk, "wait 1\ntell 0\nmark a\nundo", whole=True), 4)
        run(other, "wait 1\ntell 0\nmark a\nundo")
        self.assertEqual(inside(desk), inside(other))

    def test_rows_for_the_number_of_lanes(self):
        desk = self.desk(MIXED)
        self.assertEqual(run(desk, "follow 2*( 2*00000 ) 1*( )"), 1)
        self.assertEqual((desk.now, desk.log), (4, ["follow 4*00000"]))
        self.assert_no_command(1, run, desk, "follow 00")

    def test_lanes_in_any_order(self):
        desk = self.desk(MIXED)
        run(desk, "tell 2 0 > 4\ntell 0")
        self.assertEqual(desk.log, ["tell 0 2 > 4", "tell 0"])


class WouldTest(CommandsCase):
    """would of point [83]."""

    def test_would(self):
        begin = "tell 1\nmark a\nwait 3\nwait 2\nundo"
        for text in ("", "wait 1", "tell 0 1\nwait 2\nmark z\nundo", "undo\nundo", "back a\nwait 1", "redo",
                     "mark a\nwait 9"):
            desk, other = self.desk(text=begin), self.desk(text=begin)
            before = inside(desk)
            found = would(desk, text)
            self.assertEqual(inside(desk), before)
            run(other, text)
            self.assertEqual(found, standing(other))
            self.assertIs(type(found), tuple)

    def test_would_raise(self):
        desk = self.desk(text="tell 1\nmark a\nwait 3\nwait 2\nundo", memory=1)
        before = inside(desk)
        self.assert_no_command(3, would, desk, "wait 1\nmark a\nmark")
        self.assert_raises(1, NothingToUndo, {}, would, desk, "undo\nwait 1")
        self.assert_raises(4, BadNumber, {"number": 0}, would, desk, "mark b\nwait 1\nwait 1\nwait 0")
        self.assert_no_command(1, would, desk, " ")
        self.assertEqual(inside(desk), before)
        desk.back("a")
        self.assertEqual(desk.now, 1)

    def test_forgotten_deeds_come_back(self):
        desk = self.desk(text="wait 1\nwait 2", memory=2)
        would(desk, "wait 3\nwait 4\nwait 5")
        desk.undo(), desk.undo()
        self.assertEqual(desk.state, first_state(desk.town))


class ReplayTest(CommandsCase):
    """Point [84]."""

    def test_logs(self):
        rng, checked = random.Random(84), 0
        for town in random_towns(85, 60, calm=1.0, most_sites=2):
            desk = Desk(town)
            for _ in range(25):
                try:
                    run(desk, rng.choice(["wait 2", "tell 0", "tell > 0", "tell 1 0", "undo", "undo", "redo",
                                          "follow 2*" + "0" * len(town)]))
                except BadCommand:
                    continue
            other = replay(town, desk.log)
            self.assertEqual((standing(other), other.log), (standing(desk), desk.log))
            self.assertEqual(other.town, town)
            checked += len(desk.log) > 3
        self.assertGreater(checked, 20)

    def test_a_new_desk(self):
        town, entries = town_of(CALLS), ["wait 1", "mark a", "wait 2", "back a", "undo", "tell 1 0"]
        desk = replay(town, entries, memory=1, most=5)
        self.assertEqual((desk.log, desk.marks, desk.memory, desk.now, undoable(desk)),
                         (["wait 1", "wait 2", "tell 0 1"], ["a"], 1, 4, 1))
        self.assertEqual(entries, ["wait 1", "mark a", "wait 2", "back a", "undo", "tell 1 0"])
        self.assertEqual(told(replay(town, tuple(entries), memory=1)), told(desk))
        self.assertEqual(told(replay(town, [])), told(Desk(town)))
        self.assertEqual(replay(town, []).memory, 50)

    def test_entries_that_are_not_commands(self):
        town = town_of(CALLS)
        for entry in ("", "wait 1\nwait 1", "wait 1\n", "\nwait 1", "undo\n", "mark a\n", "tell 0\n", "tell\n",
                      "follow 00\n",
                      "follow\n00", "follow 00\nwait 1", "nonsense"):
            with self.subTest(entry):
                self.assert_no_command(1, replay, town, [entry])
                self.assert_no_command(3, replay, town, ["wait 1", "tell", entry, "wait 1"])

    def test_errors(self):
        town = town_of(CALLS)
        for number in (-1, 201):
            with self.assertRaises(BadNumber) as caught:
                replay(town, ["nonsense"], memory=number, most=0)
            self.assertEqual(caught.exception.number, number)
        with self.assertRaises(BadNumber) as caught:
            replay(town, ["nonsense"], most=5001)
        self.assertEqual(caught.exception.number, 5001)
        self.assert_raises(2, BadNumber, {"number": 61}, replay, town, ["wait 60", "wait 61", "x"])
        self.assert_raises(1, UnknownName, {"name": "a"}, replay, town, ["back a"])
        self.assert_raises(3, NothingToUndo, {}, replay, town, ["wait 1", "undo", "undo"])
