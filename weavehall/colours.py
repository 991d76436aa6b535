"""Colours: the picture that a cloth shows, a cloth for a picture, colours for a picture or a knot."""

from weavehall.cloths import threads
from weavehall.errors import BadColours
from weavehall.kinds import are_numbers_below

COLOURS = (0, 1, 2)


def shown_by(cloth, warps, wefts):
    check_colours(cloth, warps, wefts)
    return tuple([shown_row(row, warps, weft) for row, weft in zip(cloth, wefts)])


def check_colours(lines, warps, wefts):
    # The error's words leave the things themselves out: showing a thing of any kind may fail.
    if not are_colours(warps, len(lines[0])) or not are_colours(wefts, len(lines)):
        raise BadColours("colours are a list of a 0, 1 or 2 for each warp, and one for each weft")


def are_colours(thing, size):
    return isinstance(thing, list) and len(thing) == size and are_numbers_below(thing, len(COLOURS))


def shown_row(row, warps, weft):
    return tuple([warp if bit == 1 else weft for bit, warp in zip(row, warps)])


def cloth_for(picture, warps, wefts):
    check_colours(picture, warps, wefts)
    rows = [row_for(row, warps, weft) for row, weft in zip(picture, wefts)]
    if any([None in row for row in rows]):
        return None
    return tuple(rows)


def row_for(row, warps, weft):
    return tuple([bit_for(colour, warp, weft) for colour, warp in zip(row, warps)])


def bit_for(colour, warp, weft):
    # The weft is asked first, since a 0 is told wherever both would do.
    if weft == colour:
        return 0
    if warp == colour:
        return 1
    return None


def colours_for(picture):
    given = {}
    for thread in threads(picture):
        if thread not in given:
            tries = [ways_from(picture, (thread, colour)) for colour in COLOURS]
            good = [ways for ways in tries if clash(ways) is None]
            if good == []:
                return ("knot", [clash(ways) for ways in tries])
            # What is led to agrees with what is given: where it did not, this thread would have been led to before.
            for step in list(good[0]):
                given[step[0]] = step[1]
    warps = [given[("warp", number)] for number in range(len(picture[0]))]
    wefts = [given[("weft", number)] for number in range(len(picture))]
    return ("colours", warps, wefts)


# A step is a tuple (thread, colour); the ways tell, for each step that must be if the first one is,
# the list of steps that leads to it: the two lists of a knot are such ways.
def ways_from(picture, first):
    ways = {first: [first]}
    waiting = [first]
    while waiting != []:
        step = waiting.pop(0)
        for after in led_to(picture, step):
            if after not in ways:
                ways[after] = ways[step] + [after]
                waiting.append(after)
    return ways


def led_to(picture, step):
    return [other for other in crossings_of(picture, step[0]) if other[1] != step[1]]


def crossings_of(picture, thread):
    if thread[0] == "warp":
        return [(("weft", number), row[thread[1]]) for number, row in enumerate(picture)]
    return [(("warp", number), colour) for number, colour in enumerate(picture[thread[1]])]


def clash(ways):
    # Each step is among the ways once, so a thread that is met again has another colour.
    reached = {}
    for step in list(ways):
        if step[0] in reached:
            return (ways[reached[step[0]]], ways[step])
        reached[step[0]] = step
    return None
