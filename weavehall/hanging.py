"""Hanging together: what lifts with a thread, lifts, layers, and two cloths woven as one."""

from weavehall.cloths import above, checked_thread, threads
from weavehall.errors import NoThread, TooBig
from weavehall.kinds import MOST


def lifts_with(cloth, thread):
    checked_thread(cloth, thread)
    lifted = {thread: True}
    waiting = [thread]
    while waiting != []:
        one = waiting.pop()
        for over in lying_above(cloth, one):
            if over not in lifted:
                lifted[over] = True
                waiting.append(over)
    return [other for other in threads(cloth) if other in lifted]


def lying_above(cloth, thread):
    # Threads of one kind never cross, so none of them lies above another.
    return [other for other in threads(cloth) if other[0] != thread[0] and above(cloth, other, thread)]


def is_lift(cloth, some):
    # The error's words leave the thing itself out: showing a thing of any kind may fail.
    if not isinstance(some, list):
        raise NoThread("this is no list of threads of the cloth")
    for thing in some:
        checked_thread(cloth, thing)
    others = [thread for thread in threads(cloth) if thread not in some]
    if some == [] or others == []:
        return False
    return not any([lies_above_one(cloth, other, some) for other in others])


def lies_above_one(cloth, thread, some):
    return any([one[0] != thread[0] and above(cloth, thread, one) for one in some])


def layers(cloth):
    # Each of two threads lifts with the other just if the same threads lift with both.
    together = {}
    for thread in threads(cloth):
        lifted = tuple(lifts_with(cloth, thread))
        if lifted not in together:
            together[lifted] = []
        together[lifted].append(thread)
    # Layers of as many stay in order of their first threads: threads came rising, and sorting keeps that order.
    return [together[lifting] for lifting in sorted(list(together), key=len)]


def hangs_together(cloth):
    return len(layers(cloth)) == 1


def a_lift(cloth):
    found = layers(cloth)
    if len(found) == 1:
        return None
    # Nothing but itself lifts with the first layer: any other thread would lift with fewer, and so come ahead.
    return found[0]


def woven_as_one(upper, lower):
    wefts = 2 * max(len(upper), len(lower))
    warps = 2 * max(len(upper[0]), len(lower[0]))
    if wefts > MOST or warps > MOST:
        raise TooBig("two cloths woven as one have at most 16 wefts and 16 warps")
    return tuple([double_row(upper, lower, weft, warps) for weft in range(wefts)])


def double_row(upper, lower, weft, warps):
    return tuple([double_bit(upper, lower, weft, warp) for warp in range(warps)])


def double_bit(upper, lower, weft, warp):
    # Where threads of both cloths cross, the one of the upper cloth (the even one) lies above.
    if weft % 2 != warp % 2:
        return weft % 2
    cloth = upper if weft % 2 == 0 else lower
    row = cloth[weft // 2 % len(cloth)]
    return row[warp // 2 % len(row)]
