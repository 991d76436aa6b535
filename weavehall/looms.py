"""Looms: tuples (threading, ties, treading), the cloths they make, the least loom of a cloth."""

from weavehall.cloths import columns
from weavehall.errors import BadLoom
from weavehall.kinds import MOST, are_numbers_below, is_row_of_numbers_below, is_tuple_in_bounds


def checked_loom(loom):
    # The error's words leave the thing itself out: showing a thing of any kind may fail.
    if not is_loom(loom):
        raise BadLoom("a loom is a tuple (threading, ties, treading) of shafts, of shafts by treadle, of treadles")
    return loom


def is_loom(thing):
    if not isinstance(thing, tuple) or len(thing) != 3:
        return False
    threading = thing[0]
    ties = thing[1]
    treading = thing[2]
    if not is_row_of_numbers_below(threading, MOST) or not is_tuple_in_bounds(ties):
        return False
    # A tie may lift a shaft that no warp hangs on: the document bounds shafts by 15 alone.
    return all([is_tie(tie) for tie in ties]) and is_row_of_numbers_below(treading, len(ties))


def is_tie(thing):
    if not isinstance(thing, tuple) or not are_numbers_below(thing, MOST):
        return False
    return all([one < after for one, after in zip(thing, thing[1:])])


def cloth_of(loom):
    checked_loom(loom)
    threading = loom[0]
    ties = loom[1]
    return tuple([woven_row(threading, ties[treadle]) for treadle in loom[2]])


def woven_row(threading, lifted):
    return tuple([1 if shaft in lifted else 0 for shaft in threading])


def least_loom(cloth):
    shafts = numbers_by_first_standing(columns(cloth))
    treadles = numbers_by_first_standing(cloth)
    threading = tuple([shafts[line] for line in columns(cloth)])
    ties = tuple([lifted_shafts(threading, row) for row in list(treadles)])
    treading = tuple([treadles[row] for row in cloth])
    return (threading, ties, treading)


def numbers_by_first_standing(lines):
    numbers = {}
    for line in lines:
        if line not in numbers:
            numbers[line] = len(numbers)
    return numbers


def lifted_shafts(threading, row):
    # Warps on one shaft are alike in every row, so no shaft is both lifted and left.
    return tuple(sorted(set([shaft for shaft, bit in zip(threading, row) if bit == 1])))
