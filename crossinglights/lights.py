"""The lights of a book, beat by beat."""

from crossinglights.errors import BadLights, UnknownStream


def check_lights(book, lights):
    """Raise BadLights unless the book can have these lights."""
    beat, number, count = lights
    if not 0 <= beat < book.length or not 0 <= number < len(book):
        raise BadLights()
    phase = book.phase(number)
    end = 1 if number == 0 else phase.most
    if not -phase.pause <= count < end:
        raise BadLights()


def shown(book, lights):
    """Return the tuple of the streams that are green."""
    check_lights(book, lights)
    _, number, count = lights
    return book.phase(number).green if count >= 0 else ()


def is_urged(phase, bus):
    """Return True if the phase is green for the stream of the bus."""
    return bus in phase.green


def is_barred(phase, bus):
    """Return True if the phase gives way to the bus."""
    return phase.yields and bus is not None and not is_urged(phase, bus)


def is_wanted(phase, waiting, bus):
    """Return True if a side phase is to be shown."""
    if is_barred(phase, bus):
        return False
    return len(phase.calls) == 0 or is_urged(phase, bus) or any([call in waiting for call in phase.calls])


def is_held(phase, came, bus):
    """Return True if a side phase is to be stretched."""
    if is_barred(phase, bus):
        return False
    return is_urged(phase, bus) or any([stream in came for stream in phase.holds])


def next_phase(book, number, waiting, bus):
    """Return the first wanted side phase behind this one, or 0 for the main phase."""
    for later in range(number + 1, len(book)):
        if is_wanted(book.phase(later), waiting, bus):
            return later
    return 0


def goes_on(book, lights, following, came, bus):
    """Return True if a green phase is green in the next beat, too; following is the phase that would be next."""
    beat, number, count = lights
    if number == 0:
        return beat < book.length - 1 or following == 0
    phase = book.phase(number)
    longer = count + 1
    return longer < phase.least or (longer < phase.most and is_held(phase, came, bus))


def next_lights(book, lights, came=(), waiting=(), bus=None):
    """Return the lights of the next beat."""
    check_lights(book, lights)
    if bus is not None and not 0 <= bus < len(book.crossing):
        raise UnknownStream(bus)
    beat, number, count = lights
    later = (beat + 1) % book.length
    if count < -1:
        return (later, number, count + 1)
    following = next_phase(book, number, waiting, bus)
    if count >= 0 and goes_on(book, lights, following, came, bus):
        return (later, number, 0 if number == 0 else count + 1)
    pause = book.phase(number).pause
    if count >= 0 and pause > 0:
        return (later, number, -pause)
    return (later, following, 0)


def quiet(book):
    """Return the list of the lights of a round in which nothing comes, waits or asks."""
    found = [next_lights(book, (book.length - 1, 0, 0))]
    while len(found) < book.length:
        found.append(next_lights(book, found[-1]))
    return found
