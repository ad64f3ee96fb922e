"""Towns as text."""

from crossinglights.drafts import Draft, pair_in
from crossinglights.errors import BadLine, LightsError
from crossinglights.lanes import Foot, Road
from crossinglights.numerals import is_number, is_positive
from crossinglights.names import is_name
from crossinglights.phases import Phase
from crossinglights.rates import Rate
from crossinglights.streets import Street

# The words in capitals stand for kinds of words, the others for themselves, and NAMES for all words that are left.
FORMS = (
    "round NUMBER",
    "site NUMBER",
    "stream NAME foot NUMBER",
    "stream NAME road NUMBER",
    "stream NAME road NUMBER rate NUMBER RATIO",
    "stream NAME road NUMBER rate NUMBER RATIO bus POSITIVE",
    "rival NAME NAME NUMBER NUMBER",
    "main NUMBER NUMBER : NAMES",
    "phase NUMBER NUMBER NUMBER : NAMES",
    "street NUMBER NAME NUMBER NAME NUMBER",
)
SIGNS = ("", "+", "?", "*")

# The kinds of lines that can stand behind a line of each kind, and at the top.
BEHIND = {
    "": ("round",),
    "round": ("site",),
    "site": ("stream",),
    "stream": ("stream", "rival", "main"),
    "rival": ("rival", "main"),
    "main": ("phase", "site", "street"),
    "phase": ("phase", "site", "street"),
    "street": ("street",),
}
LAST_KINDS = ("main", "phase", "street")


def names_of(book, streams):
    """Return the list of the names of these streams."""
    return [book.crossing.streams[stream] for stream in streams]


def phase_line(book, phase):
    """Return the line of a side phase."""
    words = ["phase", str(phase.least), str(phase.most), str(phase.pause), ":", *names_of(book, phase.green)]
    if len(phase.holds) > 0:
        words.extend(["+", *names_of(book, phase.holds)])
    if len(phase.calls) > 0:
        words.extend(["?", *names_of(book, phase.calls)])
    if phase.yields:
        words.append("*")
    return " ".join(words)


def site_lines(site, offset):
    """Return the list of the lines of a site."""
    book = site.book
    lines = [f"site {offset}"]
    for name, lane in zip(book.crossing.streams, site.lanes):
        lines.append(f"stream {name} {lane.told()}")
    for first, second, forth, back in book.crossing.rivals:
        names = book.crossing.streams
        lines.append(f"rival {names[first]} {names[second]} {forth} {back}")
    main = ["main", str(book.main.least), str(book.main.pause), ":", *names_of(book, book.main.green)]
    return [*lines, " ".join(main), *[phase_line(book, phase) for phase in book.phases]]


def street_line(town, street):
    """Return the line of a street."""
    words = ["street"]
    for site, stream in (street.start, street.end):
        words.extend([str(site), town.sites[site].book.crossing.streams[stream]])
    return " ".join([*words, str(street.travel)])


def town_text(town):
    """Return the text of a town."""
    lines = [f"round {town.length}"]
    for site, offset in zip(town.sites, town.offsets):
        lines.extend(site_lines(site, offset))
    return "\n".join([*lines, *[street_line(town, street) for street in town.streets]])


def is_of_kind(word, kind):
    """Return True if a word can stand for this word of a form."""
    if kind == "NUMBER":
        return is_number(word)
    if kind == "POSITIVE":
        return is_positive(word)
    if kind == "RATIO":
        parts = word.split("/")
        return len(parts) == 2 and is_number(parts[0]) and is_number(parts[1])
    return is_name(word) if kind == "NAME" else word == kind


def signed_parts(words):
    """Return the list of the pairs of each sign and the words behind it, beginning with the empty sign."""
    parts = [("", [])]
    for word in words:
        if word in SIGNS and word != "":
            parts.append((word, []))
        else:
            parts[-1][1].append(word)
    return parts


def is_signed(words):
    """Return True if the signs stand in their order, and names stand behind each one that needs any."""
    parts = signed_parts(words)
    order = [SIGNS.index(sign) for sign, _ in parts]
    if order != sorted(set(order)):
        return False
    return all([sign == "" or (len(names) == 0) == (sign == "*") for sign, names in parts])


def has_form(words, form):
    """Return True if the words of a line have this form."""
    kinds = form.split(" ")
    count = len(kinds)
    if kinds[-1] == "NAMES":
        count = count - 1
        behind = words[count:]
        if not is_signed(behind) or (kinds[0] == "main" and len(signed_parts(behind)) > 1):
            return False
    elif len(words) != count:
        return False
    return len(words) >= count and all([is_of_kind(word, kind) for word, kind in zip(words, kinds[:count])])


def lane_of(words):
    """Return the lane with this written form."""
    if words[0] == "foot":
        return Foot(int(words[1]))
    if len(words) == 2:
        return Road(int(words[1]))
    num, den = words[4].split("/")
    rate = Rate(int(words[3]), int(num), int(den))
    return Road(int(words[1]), rate=rate, bus=int(words[6]) if len(words) > 5 else 0)


def read_round(draft, words):
    """Read a line of the round."""
    draft.length = int(words[1])


def read_site(draft, words):
    """Read a line that begins a site."""
    draft.begin_site(int(words[1]))


def read_stream(draft, words):
    """Read a line of a stream and its lane."""
    draft.names.append(words[1])
    draft.lanes.append(lane_of(words[2:]))


def read_rival(draft, words):
    """Read a line of a rival."""
    first, second = draft.numbers(words[1:3])
    draft.rivals.append((first, second, int(words[3]), int(words[4])))


def read_main(draft, words):
    """Read a line of a main phase."""
    draft.main = Phase(draft.numbers(words[4:]), least=int(words[1]), pause=int(words[2]))


def read_phase(draft, words):
    """Read a line of a side phase."""
    names = {sign: part for sign, part in signed_parts(words[5:])}
    draft.phases.append(Phase(draft.numbers(names[""]), least=int(words[1]), most=int(words[2]), pause=int(words[3]),
                              holds=draft.numbers(names.get("+", [])), calls=draft.numbers(names.get("?", [])),
                              yields="*" in names))


def read_street(draft, words):
    """Read a line of a street."""
    town = draft.made()
    start = pair_in(town, int(words[1]), words[2])
    end = pair_in(town, int(words[3]), words[4])
    draft.streets.append(Street(start, end, int(words[5])))


READERS = {
    "round": read_round,
    "site": read_site,
    "stream": read_stream,
    "rival": read_rival,
    "main": read_main,
    "phase": read_phase,
    "street": read_street,
}


def read_line(draft, words):
    """Read a line that has a form; raise an error of the package if it is wrong with what stands above it."""
    reader = READERS[words[0]]
    reader(draft, words)
    draft.made()


def read_town(text):
    """Return the town with this text."""
    lines = text.split("\n")
    draft = Draft()
    kind = ""
    for place, line in enumerate(lines):
        words = line.split(" ")
        if words[0] not in BEHIND[kind] or not any([has_form(words, form) for form in FORMS]):
            raise BadLine(place + 1)
        kind = words[0]
        try:
            read_line(draft, words)
        except LightsError:
            raise BadLine(place + 1) from None
    if kind not in LAST_KINDS:
        raise BadLine(len(lines) + 1)
    return draft.made()
