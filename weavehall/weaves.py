"""Weaves: the floats of threads and cloths, twills, satins, and whether a cloth is even."""

from weavehall.cloths import checked_thread, column, columns, threads


def float_of(cloth, thread):
    checked_thread(cloth, thread)
    return longest_run(crossings(cloth, thread))


def crossings(cloth, thread):
    if thread[0] == "warp":
        return column(cloth, thread[1])
    return cloth[thread[1]]


def longest_run(bits):
    # The bit ahead of the first is the last (index -1), since the cloth comes again.
    changes = [place for place in range(len(bits)) if bits[place] != bits[place - 1]]
    if changes == []:
        return None
    return max([(place - changes[k - 1]) % len(bits) for k, place in enumerate(changes)])


def longest_float(cloth):
    floats = [float_of(cloth, thread) for thread in threads(cloth)]
    if None in floats:
        return None
    return max(floats)


def twill(bits, step):
    return tuple([moved_bits(bits, weft * step) for weft in range(len(bits))])


def moved_bits(bits, places):
    return tuple([bits[(place - places) % len(bits)] for place in range(len(bits))])


def satin(size, step):
    return twill([1 if place == 0 else 0 for place in range(size)], step)


def is_even(cloth):
    return have_equal_ones(cloth) and have_equal_ones(columns(cloth))


def have_equal_ones(lines):
    return len(set([sum(line) for line in lines])) == 1
