"""Things of many kinds for tests of refusals, and all small cloths."""

from itertools import product


class EqualToAll:
    def __eq__(self, other):
        return True

    def __hash__(self):
        return 0


class NotShown:
    def __repr__(self):
        raise RuntimeError("this cannot be shown")


def deep_tuple():
    thing = ()
    for _ in range(100000):
        thing = (thing,)
    return thing


def things_of_any_kind():
    """None of these is a number, a cloth, a loom or a thread."""
    return [
        None, True, False, 1.0, float("nan"), 1j, "", "warp", "10", b"", b"\x01", [], {}, set(), frozenset(),
        (), ((),), (None,), [[1]], [(1,)], ([1],), {0: (1,)}, {(1,)}, range(2), object(), object, len,
        (i for i in (1, 0)), iter([1]), EqualToAll(), NotShown(), (NotShown(),), ((NotShown(),),), deep_tuple(),
        ValueError("x"), "#-\n", (("warp", 0),), ("warp",), ("warp", 0, 0), -1, 10 ** 400,
    ]


def things_in_the_place_of_a_number():
    return [None, True, False, 0.0, 1.0, float("nan"), float("inf"), 1j, "0", "1", "", b"\x00", [], [0], (), (0,),
            {}, {0}, object(), int, EqualToAll(), NotShown(), -1, -10 ** 400, 10 ** 400]


def all_cloths(most_rows, most_columns):
    found = []
    for height in range(1, most_rows + 1):
        for width in range(1, most_columns + 1):
            rows = list(product((0, 1), repeat=width))
            found.extend(product(rows, repeat=height))
    return found


def patterned(seed, height, width, bound):
    """Rows of numbers below the bound that look mixed, the same ones on every run."""
    state = seed * 7919 + height * 104729 + width * 1299709 + 1
    rows = []
    for _ in range(height):
        row = []
        for _ in range(width):
            state = (state * 6364136223846793005 + 1442695040888963407) % 2 ** 64
            row.append((state >> 33) % bound)
        rows.append(tuple(row))
    return tuple(rows)


def patterned_cloth(seed, height, width):
    return patterned(seed, height, width, 2)


def patterned_picture(seed, height, width):
    return patterned(seed, height, width, 3)
