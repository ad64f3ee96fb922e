"""The text of a town: points [74] and [75]."""

import random
import re

from crossinglights.books import Book
from crossinglights.crossings import Crossing
from crossinglights.errors import BadLine, LightsError
from crossinglights.lanes import Foot, Road
from crossinglights.phases import Phase
from crossinglights.rates import Rate
from crossinglights.sites import Site
from crossinglights.streets import Street
from crossinglights.towns import Town
from crossinglights.towntext import read_town, town_text
from tests.support import Case
from tests.townmodel import BREACH, CALLS, MIXED, SMALL, random_towns

FULL = ["round 12",
        "site 11", "stream abcdefgh road 9 rate 3 5/6 bus 12", "stream b foot 24", "stream c road 0", "rival c b 9 0",
        "rival abcdefgh c 0 9", "main 1 9 :", "phase 1 1 0 : abcdefgh c + b c ? b *", "phase 1 1 0 :",
        "site 0", "stream road road 1", "stream site road 2", "main 2 0 : road site", "phase 2 3 1 : ? road",
        "phase 1 1 0 : *", "phase 1 1 0 : site *", "phase 1 1 0 : + site", "phase 1 1 0 : + road ? site",
        "street 0 c 1 road 6", "street 1 road 1 site 1"]

NUMBER, NAME = "(?:0|[1-9][0-9]{0,2})", "[a-z]{1,8}"
FORMS = [re.compile(form.replace("N", NUMBER).replace("W", NAME).replace("M", f"(?: {NAME})")) for form in (
    "round N", "site N", "stream W foot N", "stream W road N(?: rate N N/N(?: bus [1-9][0-9]{0,2})?)?",
    "rival W W N N", "main N N :M*", r"phase N N N :M*(?: \+M+)?(?: \?M+)?(?: \*)?", "street N W N W N")]
KINDS = re.compile("(?:r(?:s(?:t+v*mp*s)*(?:t*|t+v*|t+v*mp*S*))?)")


def kind_of(line):
    """One letter for the kind of a line."""
    return {"rival": "v", "stream": "t", "street": "S"}.get(line.split(" ")[0], line[:1])


def phase_in(names, words):
    """The phase of a line of a main or a side phase."""
    numbers = [int(word) for word in words[1:words.index(":")]]
    parts = {"": [], "+": [], "?": [], "*": []}
    sign = ""
    for word in words[words.index(":") + 1:]:
        sign = word if word in "+?*" else sign
        if word not in "+?*":
            parts[sign].append(names.index(word))
    most = numbers[1] if words[0] == "phase" else None
    return Phase(parts[""], least=numbers[0], most=most, pause=numbers[-1], holds=parts["+"], calls=parts["?"],
                 yields=words[-1] == "*")


def lane_in(words):
    """The lane of a line of a stream."""
    if words[2] == "foot":
        return Foot(int(words[3]))
    rate = Rate(int(words[5]), *[int(part) for part in words[6].split("/")]) if len(words) > 4 else None
    return Road(int(words[3]), rate=rate, bus=int(words[8]) if len(words) > 7 else 0)


def built(lines):
    """The town of some lines that have their forms and kinds; all sites of it but the last one are whole."""
    length, sites, offsets, streets = int(lines[0].split(" ")[1]), [], [], []
    Book(Crossing(["a"], []), length, Phase([]), [])
    parts = []
    for words in [line.split(" ") for line in lines[1:]]:
        if words[0] == "site":
            parts.append([])
            offsets.append(int(words[1]))
        parts[-1].append(words)
    for part in parts:
        names = [words[1] for words in part if words[0] == "stream"] or ["a"]
        lanes = [lane_in(words) for words in part if words[0] == "stream"] or [Road(1)]
        rivals = [(names.index(words[1]), names.index(words[2]), int(words[3]), int(words[4]))
                  for words in part if words[0] == "rival"]
        phases = [phase_in(names, words) for words in part if words[0] in ("main", "phase")]
        sites.append(Site(Book(Crossing(names, rivals), length, (phases or [Phase([])])[0], phases[1:]), lanes))
    for words in [words for part in parts for words in part if words[0] == "street"]:
        pairs = []
        for site, name in ((int(words[1]), words[2]), (int(words[3]), words[4])):
            pairs.append((site, sites[site].book.crossing.index(name)))
        streets.append(Street(*pairs, int(words[5])))
    return Town(sites, offsets, streets) if sites else None


def is_begin(lines):
    """Return True if no line of these is wrong."""
    if not all(any(form.fullmatch(line) for form in FORMS) for line in lines):
        return False
    if not KINDS.fullmatch("".join(kind_of(line) for line in lines)):
        return False
    try:
        built(lines)
    except (LightsError, ValueError, IndexError):
        return False
    return True


def wanted_wrong(text):
    """The number of the first wrong line, the number of lines plus 1 if the end is missing, or None."""
    lines = text.split("\n")
    for count in range(1, len(lines) + 1):
        if not is_begin(lines[:count]):
            return count
    return None if kind_of(lines[-1]) in "mpS" else len(lines) + 1


def mutated(rng, text):
    """A text with a small change."""
    lines = text.split("\n")
    place = rng.randrange(len(lines))
    words = lines[place].split(" ")
    kind = rng.randrange(6)
    if kind == 0:
        del lines[place]
    elif kind == 1:
        lines.insert(place, rng.choice(lines))
    elif kind == 2:
        other = rng.randrange(len(lines))
        lines[place], lines[other] = lines[other], lines[place]
    elif kind == 3:
        others = ["0", "1", "2", "5", "13", "a", "b", "+", "?", "*", ":", "", "1/2"]
        words[rng.randrange(len(words))] = rng.choice(others)
        lines[place] = " ".join(words)
    elif kind == 4:
        words.insert(rng.randrange(len(words) + 1), rng.choice(["1", "a", "+", "?", "*", "", "bus", "rate"]))
        lines[place] = " ".join(words)
    else:
        del words[rng.randrange(len(words))]
        lines[place] = " ".join(words)
    return "\n".join(lines)


class TextTest(Case):
    """Point [74]."""

    def test_full_text(self):
        names = Crossing(["abcdefgh", "b", "c"], [(2, 1, 9, 0), (0, 2, 0, 9)])
        first = Book(names, 12, Phase([], pause=9), [Phase([2, 0], holds=[2, 1], calls=[1], yields=True), Phase([])])
        second = Book(Crossing(["road", "site"], []), 12, Phase([1, 0], least=2),
                      [Phase([], least=2, most=3, pause=1, calls=[0]), Phase([], yields=True), Phase([1], yields=True),
                       Phase([], holds=[1]), Phase([], holds=[0], calls=[1])])
        town = Town([Site(first, [Road(9, rate=Rate(3, 5, 6), bus=12), Foot(24), Road(0)]),
                     Site(second, [Road(1), Road(2)])], [11, 0], [Street((0, 2), (1, 0), 6), Street((1, 0), (1, 1), 1)])
        self.assertEqual(town_text(town).split("\n"), FULL)
        self.assertEqual(read_town("\n".join(FULL)), town)
        self.assertEqual(town_text(town), town_text(town))

    def test_texts_and_towns(self):
        for lines in (BREACH, CALLS, MIXED, SMALL, FULL):
            self.assertEqual(town_text(read_town("\n".join(lines))), "\n".join(lines))

    def test_random_towns(self):
        for town in random_towns(74, 300, most_sites=4, most_streams=6, lengths=(2, 7, 12), streets=6):
            self.assertEqual(read_town(town_text(town)), town)
            self.assertEqual(town_text(read_town(town_text(town))), town_text(town))

    def test_a_great_town(self):
        rate = "rate 1 1/1"
        lines = ["round 7"]
        for site in range(4):
            lines += [f"site {site}", *[f"stream {name} road 1" + f" {rate}" * (site == 0) for name in "abcdef"],
                      *[f"rival {a} {b} 0 9" for a in "abcdef" for b in "abcdef" if a < b], "main 1 0 : a",
                      *["phase 1 1 0 : b"] * 6]
        lines += [f"street 0 {name} 3 {name} 1" for name in "abcdef"]
        self.assertEqual(town_text(read_town("\n".join(lines))), "\n".join(lines))


class ReadTest(Case):
    """Point [75]."""

    def assert_wrong(self, number, lines):
        self.assert_fails(BadLine, {"number": number}, read_town, "\n".join(lines))

    def assert_all_wrong(self, lines, place, others):
        """A line in this place, from 0, makes its own number wrong."""
        for other in others:
            with self.subTest(other):
                self.assert_wrong(place + 1, [*lines[:place], other, *lines[place + 1:]])

    def test_names_in_any_order(self):
        lines = ["round 4", "site 0", "stream a road 1", "stream b road 1", "stream c road 1", "main 1 0 : c a b",
                 "phase 1 1 0 : b a + c a ? c b"]
        site = read_town("\n".join(lines)).sites[0]
        self.assertEqual((site.book.main.green, site.book.phases[0]),
                         ((0, 1, 2), Phase([0, 1], holds=[0, 2], calls=[1, 2])))

    def test_the_end(self):
        self.assert_wrong(1, [""])
        self.assert_wrong(2, ["round 4"])
        self.assert_wrong(2, ["round 4", ""])
        for count in range(2, 6):
            self.assert_wrong(count + 1, BREACH[:count])
        self.assertEqual(len(read_town("\n".join(BREACH[:6]))), 2)
        for place, line in enumerate(FULL):
            if line.startswith(("main", "phase", "street")):
                self.assertEqual(town_text(read_town("\n".join(FULL[:place + 1]))), "\n".join(FULL[:place + 1]))
            else:
                self.assert_wrong(place + 2, FULL[:place + 1])
        self.assert_wrong(len(BREACH) + 1, [*BREACH, ""])

    def test_numbers(self):
        for number in ("00", "01", "1000", "-1", "+1", "1.", "", "a", "1/1", " 1"):
            self.assert_all_wrong(MIXED, 0, [f"round {number}"])
            self.assert_all_wrong(MIXED, 1, [f"site {number}"])
            self.assert_all_wrong(MIXED, 2, [f"stream a road {number}", f"stream a foot {number}",
                                             f"stream a road 1 rate {number} 1/2", f"stream a road 1 rate 1 {number}/2",
                                             f"stream a road 1 rate 1 1/{number}",
                                             f"stream a road 1 rate 1 1/2 bus {number}"])
            self.assert_all_wrong(MIXED, 5, [f"rival a b {number} 1", f"rival a b 1 {number}"])
            self.assert_all_wrong(MIXED, 7, [f"main {number} 1 : a", f"main 1 {number} : a"])
            self.assert_all_wrong(MIXED, 8, [f"phase {number} 2 1 : b", f"phase 1 {number} 1 : b",
                                             f"phase 1 2 {number} : b"])
            self.assert_all_wrong(MIXED, 14, [f"street {number} a 1 a 3", f"street 0 a {number} a 3",
                                              f"street 0 a 1 a {number}"])

    def test_spaces_and_empty_lines(self):
        for place, line in enumerate(MIXED):
            others = ["", " ", f" {line}", f"{line} ", line.replace(" ", "  ", 1), line + "x"]
            self.assert_all_wrong(MIXED, place, others)
            self.assert_wrong(place + 1, [*MIXED[:place], "", *MIXED[place:]])
        self.assert_wrong(16, [*MIXED, ""])

    def test_forms(self):
        self.assert_all_wrong(MIXED, 0, ["round", "round 4 4", "Round 4", "rounds 4", "site 0", "round  4"])
        self.assert_all_wrong(MIXED, 1, ["site", "site 0 0", "round 5"])
        self.assert_all_wrong(MIXED, 2, ["stream a", "stream a road", "stream a foot", "stream a lane 3",
                                         "stream road 3", "stream a road 3 rate", "stream a road 3 rate 1",
                                         "stream a road 3 rate 1 1",
                                         "stream a road 3 rate 1 1/2/3", "stream a road 3 rate 1 1 2",
                                         "stream a road 3 rate 1 1/2 bus", "stream a road 3 rate 1 1/2 bus 0",
                                         "stream a road 3 bus 2", "stream a road 3 rate 1 1/2 bus 2 2",
                                         "stream a foot 3 rate 1 1/2", "stream a foot 3 3", "stream a road 3 rat 1 1/2",
                                         "stream a road 3 bus 2 rate 1 1/2", "stream a road 3 rate 1 1/2 bux 2"])
        self.assert_all_wrong(MIXED, 5, ["rival", "rival a b", "rival a b 1", "rival a b 1 1 1", "rival a b c 1"])
        self.assert_all_wrong(MIXED, 7, ["main", "main 1 1", "main 1 1 a", "main 1 : a", "main 1 1 1 : a",
                                         "main 1 1 : a *", "main 1 1 : a + b", "main 1 1 : a ? b", "main 1 1 : +",
                                         "main 1 1 : a :",
                                         "main 1 1 :a", "main 1 1 : 1", "main 1 1 : "])
        self.assert_all_wrong(MIXED, 8, ["phase", "phase 1 2 1", "phase 1 2 1 b", "phase 1 2 : b", "phase 1 2 1 : b +",
                                         "phase 1 2 1 : b ?", "phase 1 2 1 : b + ? b", "phase 1 2 1 : b ? b + b",
                                         "phase 1 2 1 : b + b + c", "phase 1 2 1 : b ? b ? c", "phase 1 2 1 : b * *",
                                         "phase 1 2 1 : b * b", "phase 1 2 1 : b * + b", "phase 1 2 1 : b * ? b",
                                         "phase 1 2 1 : b + *", "phase 1 2 1 : b + b ?", "phase 1 2 1 : b +b",
                                         "phase 1 2 1 : : b", "phase 1 2 1 : "])
        self.assert_all_wrong(MIXED, 14, ["street", "street 0 a 1 a", "street 0 a 1 a 3 3", "street a 0 1 a 3",
                                          "street 0 a 3", "lane 3", "*", "?"])

    def test_kinds_that_cannot_stand_there(self):
        kinds = {line.split(" ")[0]: line for line in MIXED}
        can = {"": "round", "round": "site", "site": "stream", "stream": "stream rival main", "rival": "rival main",
               "main": "phase site street", "phase": "phase site street", "street": "street"}
        for place in range(len(MIXED) + 1):
            before = MIXED[place - 1].split(" ")[0] if place else ""
            for kind, line in kinds.items():
                if kind not in can[before].split():
                    self.assert_wrong(place + 1, [*MIXED[:place], line, *MIXED[place:]])

    def test_crossings(self):
        self.assert_all_wrong(MIXED, 3, ["stream a road 1", "stream abcdefghi road 1", "stream A road 1",
                                         "stream 1 road 1", "stream  road 1"])
        many = ["round 5", "site 0", *[f"stream {name} road 1" for name in "abcdefg"], "main 1 0 :"]
        self.assert_wrong(9, many)
        self.assert_all_wrong(MIXED, 5, ["rival a d 1 1", "rival d a 1 1", "rival a a 1 1", "rival a b 10 1",
                                         "rival a b 1 10", "rival A b 1 1"])
        self.assert_all_wrong(MIXED, 6, ["rival a b 1 1", "rival b a 0 0"])

    def test_rates_and_lanes(self):
        for rate in ("0 1/2", "4 1/2", "1 0/2", "1 3/2", "1 1/0", "1 1/7", "1 7/7"):
            self.assert_all_wrong(MIXED, 2, [f"stream a road 3 rate {rate}", f"stream a road 3 rate {rate} bus 3"])
        self.assert_all_wrong(MIXED, 2, ["stream a foot 0", "stream a foot 25", "stream a road 10",
                                         "stream a road 3 rate 1 1/2 bus 13", "stream a road 999"])

    def test_books(self):
        self.assert_all_wrong(MIXED, 0, ["round 0", "round 1", "round 13", "round 60"])
        self.assert_all_wrong(MIXED, 7, ["main 0 0 : a", "main 1 10 : a", "main 5 1 : a", "main 6 0 : a",
                                         "main 13 0 : a",
                                         "main 1 1 : d", "main 1 1 : a a", "main 999 0 :"])
        self.assert_all_wrong(MIXED, 8, ["phase 0 1 1 : b", "phase 2 1 1 : b", "phase 1 13 0 : b", "phase 1 1 10 : b",
                                         "phase 1 1 0 : d", "phase 1 1 0 : b b", "phase 1 1 0 : b + d",
                                         "phase 1 1 0 : b + a a", "phase 1 1 0 : b ? d", "phase 1 1 0 : b ? c c",
                                         "phase 1 3 1 : b", "phase 1 2 2 : b"])
        lines = ["round 4", "site 0", "stream a road 1", "main 1 0 :", *["phase 1 1 0 :", "phase 1 1 0 : a"] * 2][:7]
        self.assertEqual(len(read_town("\n".join(lines)).sites[0].book), 4)
        self.assert_wrong(8, [*lines, "phase 1 1 0 :"])
        self.assert_wrong(14, ["round 12", *lines[1:], *["phase 1 1 0 :"] * 6, "phase 1 3 0 :"])

    def test_sites_and_towns(self):
        bus = "stream x road 3 rate 1 1/2 bus 3"
        self.assert_all_wrong(MIXED, 12, ["stream c road 1 rate 1 1/2 bus 1"])
        self.assert_wrong(4, ["round 4", "site 0", bus, bus.replace("x", "y"), "main 1 0 :"])
        self.assert_all_wrong(MIXED, 1, ["site 5", "site 12"])
        self.assert_all_wrong(MIXED, 9, ["site 5"])
        site = ["site 0", "stream a road 1", "main 1 0 : a"]
        self.assertEqual(len(read_town("\n".join(["round 2", *site * 4]))), 4)
        self.assert_wrong(14, ["round 2", *site * 5])
        self.assert_wrong(14, ["round 2", *site * 4, "site 1"])
        feet = ["site 0", "stream a foot 1", "stream b road 1 rate 1 1/1", "stream c foot 1", "main 1 0 :"]
        self.assertEqual(len(read_town("\n".join(["round 2", *feet * 2]))), 6)
        self.assert_wrong(13, ["round 2", *feet * 3])
        self.assert_wrong(14, ["round 2", *feet * 2, "site 0", "stream a road 1", "stream b road 1 rate 1 1/1"])

    def test_streets(self):
        self.assert_all_wrong(MIXED, 14, ["street 0 a 1 a 0", "street 0 a 1 a 7", "street 2 a 1 a 3",
                                          "street 0 a 2 a 3", "street 0 d 1 a 3", "street 0 a 1 d 3",
                                          "street 0 c 1 a 3", "street 0 a 0 c 3",
                                          "street 0 a 1 b 3", "street 1 a 0 a 3"])
        self.assert_wrong(16, [*MIXED, "street 0 a 0 b 1"])
        self.assert_wrong(16, [*MIXED, "street 0 b 1 a 1"])
        self.assertEqual(len(read_town("\n".join([*MIXED, "street 0 b 0 b 1"])).streets), 2)
        site = ["site 0", *[f"stream {name} road 1" for name in "abcdef"], "main 1 0 :"]
        streets = [f"street 0 {name} 1 {name} 1" for name in "abcdef"]
        lines = ["round 2", *site * 2, *streets]
        self.assertEqual(len(read_town("\n".join(lines)).streets), 6)
        self.assert_wrong(len(lines) + 1, [*lines, "street 1 a 0 a 1"])

    def test_the_first_wrong_line_counts(self):
        self.assert_wrong(3, [*MIXED[:2], "stream a road 10", *MIXED[3:8], "phase", *MIXED[9:]])
        self.assert_wrong(1, ["", *MIXED])
        self.assert_wrong(2, [MIXED[0], *MIXED])

    def test_changed_texts(self):
        rng, wrong, right = random.Random(75), set(), 0
        towns = random_towns(76, 120, most_sites=4, most_streams=4, lengths=(2, 5, 12), streets=4, sources=5)
        for text in [*[town_text(town) for town in towns], *["\n".join(FULL)] * 40]:
            self.assertIsNone(wanted_wrong(text))
            for _ in range(8):
                other = mutated(rng, text)
                number = wanted_wrong(other)
                if number is None:
                    self.assertEqual(read_town(other), built(other.split("\n")))
                    right += 1
                else:
                    self.assert_fails(BadLine, {"number": number}, read_town, other)
                    wrong.add(number)
        self.assertGreater(right, 100)
        self.assertGreater(len(wrong), 20)
