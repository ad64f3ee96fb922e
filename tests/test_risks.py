"""How near a broken promise is: breach_from of point [80]."""

from crossinglights.errors import BadNumber, TooMany
from crossinglights.risks import breach_from
from crossinglights.states import comings_list, first_state
from crossinglights.stepping import after, breaks
from crossinglights.verdicts import Table, judge
from tests.support import Case
from tests.townmodel import BREACH, CALLS, MIXED, random_towns, town_of, walked


class BreachFromTest(Case):
    def test_the_first_state(self):
        town = town_of(BREACH)
        self.assertEqual(breach_from(town, first_state(town)), judge(town).row)
        self.assertIsNone(breach_from(town_of(CALLS), first_state(town_of(CALLS))))

    def test_all_open_states(self):
        rows_of = {}
        for town in random_towns(80, 120, calm=0.9, most_sites=2, most_streams=2):
            found = walked(town, first_state(town), 40)
            for state in found[0] if found else []:
                rows, broken = walked(town, state)
                found_row = breach_from(town, state, len(rows))
                self.assertEqual(found_row, None if broken is None else broken[0])
                rows_of[len(found_row or [])] = True
                if len(rows) > 1:
                    self.assert_fails(TooMany, {"number": len(rows) - 1}, breach_from, town, state, len(rows) - 1)
        self.assertGreater(len(rows_of), 5)

    def test_one_beat_takes_at_most_one(self):
        town = town_of(BREACH)
        for state in walked(town, first_state(town))[0]:
            risk = len(breach_from(town, state))
            for comings in comings_list(town, state):
                if not breaks(town, state, comings):
                    self.assertGreaterEqual(len(breach_from(town, after(town, state, comings))), risk - 1)

    def test_a_table_has_no_risk(self):
        town = town_of(CALLS)
        table = judge(town)
        self.assertIsInstance(table, Table)
        for state in table:
            self.assertIsNone(breach_from(town, state))

    def test_most(self):
        town = town_of(MIXED)
        state = first_state(town)
        for most in (0, -1, 5001, 10 ** 9):
            self.assert_fails(BadNumber, {"number": most}, breach_from, town, state, most)
        self.assert_fails(TooMany, {"number": 1}, breach_from, town, state, 1)

    def test_each_list_is_new(self):
        town = town_of(BREACH)
        breach_from(town, first_state(town)).clear()
        self.assertEqual(len(breach_from(town, first_state(town))), 3)
        self.assertEqual(town, town_of(BREACH))
