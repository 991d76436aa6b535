"""Turns: cloths turned over, mirrored, turned about and moved on, and whether two are one weave."""

from weavehall.cloths import columns


def turned_over(cloth):
    # Seen from below, the other thread lies above at each crossing.
    return tuple([swapped(row) for row in mirrored(cloth)])


def swapped(bits):
    return tuple([1 - bit for bit in bits])


def mirrored(cloth):
    return tuple([tuple(reversed(row)) for row in cloth])


def turned_about(cloth):
    # A 1 tells that the warp lies above; once it is a weft, a 0 tells the same.
    return tuple([swapped(line) for line in columns(cloth)])


def moved_on(cloth, wefts, warps):
    return tuple([begun_at(row, warps) for row in begun_at(cloth, wefts)])


def begun_at(line, place):
    start = place % len(line)
    return line[start:] + line[:start]


def is_one_weave(one, other):
    # Moving on keeps the size, so cloths of unlike sizes are never found equal.
    return any([is_moved_by_wefts(one, other, wefts) for wefts in range(len(one))])


def is_moved_by_wefts(one, other, wefts):
    return any([moved_on(one, wefts, warps) == other for warps in range(len(one[0]))])
