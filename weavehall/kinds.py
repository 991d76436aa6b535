"""Questions about things of any kind: is it a number in bounds, a tuple of a length in bounds."""

MOST = 16


def is_number_below(thing, bound):
    # Python counts True and False as whole numbers; the document does not.
    return isinstance(thing, int) and not isinstance(thing, bool) and 0 <= thing < bound


def are_numbers_below(things, bound):
    return all([is_number_below(thing, bound) for thing in things])


def is_tuple_in_bounds(thing):
    return isinstance(thing, tuple) and 1 <= len(thing) <= MOST


def is_row_of_numbers_below(thing, bound):
    return is_tuple_in_bounds(thing) and are_numbers_below(thing, bound)
