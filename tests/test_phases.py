"""Phases: point [39]."""

from crossinglights.errors import BadPhase
from crossinglights.phases import Phase
from tests.support import Case

PARTS = ("green", "least", "most", "pause", "holds", "calls", "yields")


def parts_of(phase):
    return tuple(getattr(phase, part) for part in PARTS)


class PhaseTest(Case):
    def assert_wrong(self, part, green, **more):
        self.assert_fails(BadPhase, {"part": part}, lambda: Phase(green, **more))

    def test_attributes(self):
        phase = Phase([2, 0], least=2, most=5, pause=3, holds=(5, 1), calls=[4, 3], yields=True)
        self.assertEqual(parts_of(phase), ((0, 2), 2, 5, 3, (1, 5), (3, 4), True))
        self.assertEqual(list(vars(phase)), list(PARTS))

    def test_defaults(self):
        self.assertEqual(parts_of(Phase([])), ((), 1, 1, 0, (), (), False))
        self.assertEqual(Phase((1,), least=7).most, 7)
        self.assertEqual(Phase((1,), least=7, most=None).most, 7)
        self.assertIs(Phase([0]).yields, False)

    def test_edges(self):
        phase = Phase((5, 4, 3, 2, 1, 0), least=12, most=12, pause=9, holds=[0], calls=range(6))
        self.assertEqual(parts_of(phase), ((0, 1, 2, 3, 4, 5), 12, 12, 9, (0,), (0, 1, 2, 3, 4, 5), False))
        self.assertEqual(Phase([0], least=1, most=12).most, 12)

    def test_wrong_parts(self):
        for wrong in ([6], [-1], [0, 0], (1, 2, 1), [0, 1, 2, 3, 4, 5, 0]):
            self.assert_wrong("green", wrong, least=0, most=0, pause=-1, holds=[6], calls=[6])
            self.assert_wrong("holds", [0], holds=wrong, calls=[6])
            self.assert_wrong("calls", [0], calls=wrong)
        for least in (0, 13, -10 ** 9):
            self.assert_wrong("least", [], least=least, pause=10)
            self.assert_wrong("least", [], least=least, most=5, holds=[0, 0])
        for least, most in ((2, 1), (5, 13), (1, 0), (12, 11), (1, -1)):
            self.assert_wrong("most", [], least=least, most=most, pause=10, calls=[9])
        for pause in (-1, 10, 10 ** 9):
            self.assert_wrong("pause", [], pause=pause, holds=[6], calls=[6])

    def test_equality(self):
        values = {"least": 2, "most": 4, "pause": 1, "holds": [1], "calls": [0], "yields": True}
        self.assertEqual(Phase([0, 1], **values), Phase((1, 0), **values))
        others = {"least": 1, "most": 5, "pause": 2, "holds": [], "calls": [0, 1], "yields": False}
        for name, value in others.items():
            self.assertNotEqual(Phase([0, 1], **values), Phase([0, 1], **{**values, name: value}))
        self.assertNotEqual(Phase([0, 1], **values), Phase([0], **values))
        self.assertEqual(Phase([0], least=3), Phase([0], least=3, most=3))
        self.assertNotEqual(Phase([0]), ((0,), 1, 1, 0, (), (), False))
        self.assertIn("__eq__", vars(Phase))

    def test_what_was_passed_is_copied(self):
        green, holds, calls = [1, 0], [2], [3]
        phase = Phase(green, holds=holds, calls=calls)
        green.append(5), holds.append(5), calls.append(5)
        self.assertEqual((phase.green, phase.holds, phase.calls), ((0, 1), (2,), (3,)))
        self.assertEqual(green, [1, 0, 5])

    def test_only_the_green_streams_are_passed_by_position(self):
        with self.assertRaises(TypeError):
            Phase([0], 1)
