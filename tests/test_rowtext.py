"""Rows of comings as text: points [76] and [77]."""

import random
import re

from crossinglights.errors import BadWord
from crossinglights.rowtext import read_row, row_text
from tests.support import Case


def beats_of(words, width):
    """The row of some words with the groups that have not been ended counted once, and their number; None if wrong."""
    row, groups = [], []
    for word in words:
        if word == ")":
            if not groups:
                return None
            count, before = groups.pop()
            if len(before) + count * len(row) > 1000 - sum(len(other) for _, other in groups):
                return None
            row = before + row * count
        elif re.fullmatch(r"[1-9][0-9]{0,2}\*\(", word):
            groups.append((int(word[:-2]), row))
            row = []
        elif re.fullmatch(r"(?:[1-9][0-9]{0,2}\*)?[012]{" + str(width) + "}", word):
            count, digits = word.split("*") if "*" in word else (1, word)
            row = row + [tuple(int(digit) for digit in digits)] * int(count)
        else:
            return None
        if len(groups) > 4 or len(row) + sum(len(other) for _, other in groups) > 1000:
            return None
    return row, len(groups)


def wanted(text, width):
    """The row of a text, or the place of the first wrong word."""
    words = text.split(" ") if text else []
    for count in range(1, len(words) + 1):
        if beats_of(words[:count], width) is None:
            return count - 1
    row, groups = beats_of(words, width)
    return len(words) if groups else row


def random_row(rng, width, most):
    """A row with many equal comings side by side."""
    row = []
    while len(row) < most and rng.random() < 0.97:
        row += [tuple(rng.choice([0, 0, 1, 2]) for _ in range(width))] * rng.choice([1, 1, 1, 2, 3, 17])
    return row[:most]


class RowTextTest(Case):
    """Point [76]."""

    def test_examples(self):
        for row, text in (([(0, 1), (0, 1), (2, 0)], "2*01 20"), ([], ""), ([(0,)], "0"), ([(2,)] * 3, "3*2"),
                          ([(0, 1, 0)], "010"), ([(0, 1), (1, 0), (0, 1)], "01 10 01"),
                          ([(1,)] * 2 + [(0,)] * 2 + [(1,)], "2*1 2*0 1"), ([(1,)] * 1500, "1500*1"),
                          (((0, 2), (0, 2)), "2*02"), ([(0,) * 24], "0" * 24)):
            self.assertEqual(row_text(row), text)

    def test_the_row_stays_as_it_was(self):
        row = [(0, 1), (0, 1)]
        row_text(row)
        self.assertEqual(row, [(0, 1), (0, 1)])


class ReadRowTest(Case):
    """Point [77]."""

    def assert_wrong(self, place, text, width):
        self.assert_fails(BadWord, {"place": place}, read_row, text, width)

    def test_examples(self):
        found = read_row("2*( 01 2*10 ) 00", 2)
        self.assertEqual(found, [(0, 1), (1, 0), (1, 0), (0, 1), (1, 0), (1, 0), (0, 0)])
        self.assertEqual([type(comings) for comings in found], [tuple] * 7)
        for text, width, row in (("", 3, []), ("0", 1, [(0,)]), ("1*2", 1, [(2,)]),
                                 ("012 210", 3, [(0, 1, 2), (2, 1, 0)]), ("1*( )", 2, []),
                                 ("999*( 999*( ) ) 1", 1, [(1,)]), ("1*( 2*( 1 0 ) )", 1, [(1,), (0,)] * 2),
                                 ("2*( 1*( 2*( 1*( 01 ) 10 ) ) )", 2, [(0, 1), (1, 0)] * 4),
                                 ("2*( 1 ) 2*( 0 )", 1, [(1,), (1,), (0,), (0,)])):
            self.assertEqual(read_row(text, width), row)

    def test_what_was_written(self):
        rng = random.Random(77)
        for width in (1, 2, 3, 6, 24):
            for _ in range(40):
                row = random_row(rng, width, rng.choice([3, 20, 1000]))
                self.assertEqual(read_row(row_text(row), width), row)
        for row in ([(1,)] * 999, [(1,)] * 999 + [(0,)], [(0,), (1,)] * 500):
            self.assertEqual(read_row(row_text(row), 1), row)

    def test_wrong_words(self):
        for word in ("", "0", "000", "03", "0a", "0*00", "01*00", "1000*00", "-1*00", "*00", "2*", "2*0", "2*000",
                     "2*03",
                     "2**00", "2*2*00", "00*2", "(", "*(", "0*(", "00*(", "1000*(", "2*((", "2*()", "((", ")(", "2*)",
                     "00)", "2*(00", "1.*00", "a*00", "00\n", "1\n*00", "+1*00"):
            with self.subTest(word):
                self.assert_wrong(0, word if word else " ", 2)
                self.assert_wrong(1, "00 " + word, 2)
                self.assert_wrong(2, "00 2*( " + word + " )", 2)

    def test_spaces(self):
        for text, place in ((" ", 0), (" 0", 0), ("0 ", 1), ("0  0", 1), ("2*( 0 ) ", 3)):
            self.assert_wrong(place, text, 1)

    def test_groups(self):
        self.assert_wrong(0, ")", 1)
        self.assert_wrong(3, "2*( 0 ) )", 1)
        self.assert_wrong(1, "2*(", 1)
        self.assert_wrong(4, "2*( 0 1*( )", 1)
        self.assert_wrong(2, "2*( 0", 1)
        four = "1*( " * 4
        self.assertEqual(read_row(four + "0" + " )" * 4, 1), [(0,)])
        self.assert_wrong(4, four + "1*( 0" + " )" * 5, 1)
        self.assert_wrong(4, four + "0*( 0" + " )" * 5, 1)
        self.assert_wrong(4, four.strip(), 1)
        self.assertEqual(read_row("1*( 1*( 1*( ) 1*( 1*( 2 ) ) ) )", 1), [(2,)])

    def test_a_thousand_comings(self):
        self.assertEqual(len(read_row("999*0 1", 1)), 1000)
        self.assert_wrong(2, "999*0 1 1", 1)
        self.assert_wrong(1, "999*0 2*1", 1)
        self.assertEqual(len(read_row("10*( 100*0 )", 1)), 1000)
        self.assert_wrong(2, "11*( 100*0 )", 1)
        self.assert_wrong(3, "500*0 2*( 251*0 )", 1)
        self.assertEqual(len(read_row("500*0 2*( 250*0 )", 1)), 1000)
        # A group that has not been ended counts once, so the word that makes the row too long is the one that ends it.
        self.assert_wrong(7, "2*( 400*0 2*( 200*0 ) 1*( ) )", 1)
        self.assert_wrong(3, "900*0 2*( 100*0 1", 1)
        self.assert_wrong(2, "900*0 2*( 101*0", 1)
        self.assert_wrong(3, "900*0 2*( 100*0 )", 1)
        self.assert_wrong(3, "900*0 1*( 100*0", 1)
        self.assert_wrong(6, "999*( 999*( 999*( 999*( 0 ) )" + " )" * 2, 1)

    def test_random_texts(self):
        rng, rows, places = random.Random(78), 0, set()
        good = ["0", "1", "2*2", "400*0", "3*(", "2*(", "1*(", ")", ")", ")"]
        for _ in range(4000):
            words = [rng.choice(good) if rng.random() < 0.97 else rng.choice(["00", "", "x", "0*0", "("])
                     for _ in range(rng.randint(0, 12))]
            text = " ".join(words)
            found = wanted(text, 1)
            if isinstance(found, int):
                self.assert_wrong(found, text, 1)
                places.add(found)
            else:
                self.assertEqual(read_row(text, 1), found)
                rows += len(found) > 3
        self.assertGreater(rows, 50)
        self.assertGreater(len(places), 10)

    def test_each_list_is_new(self):
        read_row("2*1", 1).clear()
        self.assertEqual(read_row("2*1", 1), [(1,), (1,)])
