"""Commands for a desk, as text."""

from crossinglights.desks import Desk
from crossinglights.errors import BadCommand, BadWord, LightsError
from crossinglights.names import LETTERS
from crossinglights.numerals import is_number
from crossinglights.rowtext import read_row


def is_letters(word):
    """Return True if the word can stand for a name, even if it is too long for one."""
    return word != "" and all([letter in LETTERS for letter in word])


def numbers_in(words):
    """Return the list of the numbers that the words are, None if a word is none."""
    return [int(word) for word in words] if all([is_number(word) for word in words]) else None


def told_lanes(words):
    """Return the list of the lanes and the list of the lanes with buses that the words tell, None if they are wrong."""
    place = words.index(">") if ">" in words else len(words)
    lanes, buses = (numbers_in(words[:place]), numbers_in(words[place + 1:]))
    if lanes is None or buses is None or place == len(words) - 1:
        return None
    return [lanes, buses]


def row_in(words, width):
    """Return the list of the one row of which the words are the text, None if they are not."""
    if len(words) == 0:
        return None
    try:
        return [read_row(" ".join(words), width)]
    except BadWord:
        return None


def arguments(name, words, width):
    """Return the list of the arguments of a command for so many lanes, None if this is not a command."""
    if name == "tell":
        return told_lanes(words)
    if name == "wait" and len(words) == 1:
        return numbers_in(words)
    if name == "follow":
        return row_in(words, width)
    if name in ("back", "mark") and len(words) == 1 and is_letters(words[0]):
        return words
    return [] if name in ("undo", "redo") and len(words) == 0 else None


def call(desk, name, found):
    """Do a command with these arguments."""
    if name == "tell":
        lanes, buses = found
        desk.tell(*lanes, bus=buses)
    elif name == "wait":
        desk.wait(found[0])
    elif name == "follow":
        desk.follow(found[0])
    elif name == "back":
        desk.back(found[0])
    elif name == "mark":
        desk.mark(found[0])
    elif name == "undo":
        desk.undo()
    else:
        desk.redo()


def do_line(desk, number, line):
    """Do the command of a line with this number."""
    words = line.split(" ")
    found = arguments(words[0], words[1:], len(desk))
    if found is None:
        raise BadCommand(number, None)
    try:
        call(desk, words[0], found)
    except LightsError as why:
        raise BadCommand(number, why) from why


def do_lines(desk, lines):
    """Do the commands of some lines, and return their number."""
    for place, line in enumerate(lines):
        do_line(desk, place + 1, line)
    return len(lines)


def run(desk, text, *, whole=False):
    """Do the commands of a text, and return their number; with whole, do all of them or none."""
    lines = [] if text == "" else text.split("\n")
    kept = desk.kept()
    try:
        return do_lines(desk, lines)
    except BadCommand:
        if whole:
            desk.restore(kept)
        raise


def would(desk, text):
    """Return what the desk would tell after the commands of a text: its now, state, came and left."""
    kept = desk.kept()
    run(desk, text, whole=True)
    told = (desk.now, desk.state, desk.came, desk.left)
    desk.restore(kept)
    return told


def replay(town, entries, *, memory=50, most=500):
    """Return a new desk that has done the entries of a log."""
    desk = Desk(town, memory=memory, most=most)
    do_lines(desk, entries)
    return desk
