"""Cloths: tuples of rows of bits, a 1 where the warp lies above the weft."""

from weavehall.errors import BadCloth, NoThread
from weavehall.kinds import is_number_below, is_row_of_numbers_below, is_tuple_in_bounds


def checked(cloth):
    # The error's words leave the thing itself out: showing a thing of any kind may fail.
    if not is_cloth(cloth):
        raise BadCloth("a cloth is a tuple of 1 to 16 rows, each a tuple of 1 to 16 bits, all alike long")
    return cloth


def is_cloth(thing):
    if not is_tuple_in_bounds(thing):
        return False
    if not all([is_row_of_numbers_below(row, 2) for row in thing]):
        return False
    return all([len(row) == len(thing[0]) for row in thing])


def threads(cloth):
    # Warps come first because "warp" stands ahead of "weft" where tuples are compared.
    warps = [("warp", number) for number in range(len(cloth[0]))]
    wefts = [("weft", number) for number in range(len(cloth))]
    return warps + wefts


def is_thread(cloth, thing):
    # Not asked with `in`: a True or a thing with an equality of its own would pass there.
    if not isinstance(thing, tuple) or len(thing) != 2 or not isinstance(thing[0], str):
        return False
    if thing[0] == "warp":
        return is_number_below(thing[1], len(cloth[0]))
    return thing[0] == "weft" and is_number_below(thing[1], len(cloth))


def checked_thread(cloth, thing):
    # The words leave the thing out here too.
    if not is_thread(cloth, thing):
        raise NoThread("this is no thread of the cloth")
    return thing


def above(cloth, one, other):
    if one[0] == "warp":
        return cloth[other[1]][one[1]] == 1
    return cloth[one[1]][other[1]] == 0


def column(cloth, number):
    return tuple([row[number] for row in cloth])


def columns(cloth):
    return [column(cloth, number) for number in range(len(cloth[0]))]
