"""Ledgers: point [85]."""

from crossinglights.desks import Desk
from crossinglights.ledgers import ledger
from tests.support import Case
from tests.townmodel import MIXED, SMALL, random_towns, town_of

HEADER = " no stream     light queue age   came   left"


class LedgerTest(Case):
    def test_the_example(self):
        desk = Desk(town_of(SMALL))
        desk.tell(1, 0), desk.wait(1)
        self.assertEqual(ledger(desk), [HEADER, "  0 0.a        green     0   -      1      1",
                                        "  1 0.b        red       0   2      1      0"])

    def test_a_new_desk(self):
        self.assertEqual(ledger(Desk(town_of(MIXED))), [
            HEADER,
            "  0 0.a        green     0   -      0      0",
            "  1 0.b        red       0   -      0      0",
            "  2 0.c        red       0   -      0      0",
            "  3 1.a        red       0   -      0      0",
            "  4 1.b        green     0   -      0      0"])

    def test_wide_columns(self):
        site = ["site 0", *[f"stream {name * 8} road 9" for name in "abcdef"], "main 2 0 :"]
        desk = Desk(town_of(["round 2", *site * 2, "site 0", "stream zzzzzzzz road 9 rate 1 1/1", "stream y foot 24",
                             "main 2 0 : zzzzzzzz"]))
        for _ in range(12):
            desk.tell(12, 13)
        lines = ledger(desk)
        self.assertEqual(len(lines), 15)
        self.assertEqual(lines[7], "  6 1.aaaaaaaa red       0   -      0      0")
        self.assertEqual(lines[13:], [" 12 2.zzzzzzzz green     0   -     12     12",
                                      " 13 2.y        red       0  12     12      0"])
        desk = Desk(town_of(["round 2", "site 0", "stream a road 9 rate 3 1/1", "main 2 0 :"]))
        desk.follow([(1,)] * 9)
        self.assertEqual(ledger(desk)[1], "  0 0.a        red       9   -      9      0")

    def test_random_desks(self):
        for town in random_towns(85, 60):
            desk = Desk(town)
            lines = ledger(desk)
            self.assertEqual((lines[0], len(lines)), (HEADER, len(town) + 1))
            for lane, line in enumerate(lines[1:]):
                site, stream = town.pair(lane)
                count, age, green = desk[lane]
                name = town.sites[site].book.crossing.streams[stream]
                self.assertEqual(line.split(), [str(lane), f"{site}.{name}", ["red", "green"][green], str(count),
                                                str(age or "-"), "0", "0"])
                self.assertEqual(len(line), len(HEADER))

    def test_each_list_is_new(self):
        desk = Desk(town_of(SMALL))
        ledger(desk).clear()
        self.assertEqual(len(ledger(desk)), 3)
