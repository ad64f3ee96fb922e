"""Tables of what a desk tells of its lanes."""


def line_of(words):
    """Return a line of the table with these words in its columns."""
    number, stream, light, queue, age, came, left = words
    return f"{number:>3} {stream:<10} {light:<5} {queue:>5} {age:>3} {came:>6} {left:>6}"


def lane_line(desk, number):
    """Return the line of a lane."""
    place, stream = desk.town.pair(number)
    name = desk.town.sites[place].book.crossing.streams[stream]
    count, age, green = desk[number]
    return line_of([number, f"{place}.{name}", "green" if green else "red", count, age if age > 0 else "-",
                    desk.came[number], desk.left[number]])


def ledger(desk):
    """Return the list of the lines of the table: a header and one line for each lane."""
    header = line_of(["no", "stream", "light", "queue", "age", "came", "left"])
    return [header, *[lane_line(desk, number) for number in range(len(desk))]]
