"""The classes of errors, and names: the interface of errors.py and point [3]."""

import inspect

from crossinglights import errors
from crossinglights.names import is_name
from tests.support import Case

ATTRIBUTES = {
    (): "BadBeats NotStage NotCrowd Growing BadLights NotFixed BadStreet UnknownState NotTiered"
        " NothingToUndo NothingToRedo",
    ("part", "place"): "BadCrossing BadPlan BadNet BadBook BadSite BadTown",
    ("part",): "BadRate BadPhase BadLane",
    ("place",): "BadOrder BadRing BadRates BadSetting BadRow BadWord NotComing",
    ("place", "breaks"): "Broken",
    ("number",): "BadNumber TooMany LongRound UnknownTie UnknownNode UnknownStream UnknownPhase UnknownSite"
                 " UnknownLane UnknownStreet NoPlan BadLine",
    ("name",): "UnknownName",
    ("credit",): "BadCredit NoCredit",
    ("ring",): "ShortRound",
    ("number", "why"): "BadCommand",
}
TUPLES = ("breaks", "ring")


class ErrorsTest(Case):
    def test_every_error_has_its_attributes_in_order(self):
        for attributes, names in ATTRIBUTES.items():
            for name in names.split():
                values = [(k, 7) if word in TUPLES else k for k, word in enumerate(attributes)]
                error = getattr(errors, name)(*values)
                self.assertEqual(list(vars(error).items()), list(zip(attributes, values)), name)

    def test_errors_stand_side_by_side_under_the_base_class(self):
        self.assertEqual(errors.LightsError.__bases__, (ValueError,))
        names = [name for words in ATTRIBUTES.values() for name in words.split()]
        for name in names:
            self.assertEqual(getattr(errors, name).__bases__, (errors.LightsError,), name)
        found = [name for name, _ in inspect.getmembers(errors, inspect.isclass)]
        self.assertEqual(sorted(found), sorted(names + ["LightsError"]))

    def test_breaks_and_rings_are_tuples(self):
        self.assertEqual(errors.Broken(2, [("full", 1)]).breaks, (("full", 1),))
        self.assertEqual(errors.ShortRound([0, 1]).ring, (0, 1))


class NamesTest(Case):
    def test_names(self):
        for text in ("a", "z", "azby", "abcdefgh"):
            self.assertIs(is_name(text), True, text)

    def test_no_names(self):
        for text in ("", "abcdefghi", "A", "aB", "a b", " a", "a ", "a1", "0", "a-b", "a_b", "`", "{", "~", "a\n"):
            self.assertIs(is_name(text), False, text)
