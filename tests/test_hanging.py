import unittest
from itertools import combinations

from refusals import RefusalCase
from things import all_cloths, patterned_cloth, things_in_the_place_of_a_number, things_of_any_kind
from weavehall.cloths import above, checked, threads
from weavehall.errors import NoThread, TooBig
from weavehall.hanging import a_lift, hangs_together, is_lift, layers, lifts_with, woven_as_one
from weavehall.weaves import satin, twill

PLAIN = ((1, 0), (0, 1))
WIDE = ((1, 1, 0, 1, 1), (0, 1, 0, 0, 0), (0, 1, 1, 1, 0))
ALL_PLAIN = [("warp", 0), ("warp", 1), ("weft", 0), ("weft", 1)]


def no_other_lies_above(cloth, some):
    """Read off the bits, crossing by crossing."""
    for weft, row in enumerate(cloth):
        for warp, bit in enumerate(row):
            over, under = ("warp", warp), ("weft", weft)
            if bit == 0:
                over, under = under, over
            if under in some and over not in some:
                return False
    return True


def lifts_by_trying(cloth):
    every = threads(cloth)
    return [list(some) for size in range(1, len(every)) for some in combinations(every, size)
            if no_other_lies_above(cloth, some)]


def least_by_trying(cloth, thread):
    every = threads(cloth)
    for size in range(1, len(every) + 1):
        for some in combinations(every, size):
            if thread in some and no_other_lies_above(cloth, some):
                return list(some)


class LiftsWithTest(RefusalCase):
    def test_one_crossing(self):
        self.assertEqual(lifts_with(((1,),), ("warp", 0)), [("warp", 0)])
        self.assertEqual(lifts_with(((1,),), ("weft", 0)), [("warp", 0), ("weft", 0)])
        self.assertEqual(lifts_with(((0,),), ("weft", 0)), [("weft", 0)])
        self.assertEqual(lifts_with(((0,),), ("warp", 0)), [("warp", 0), ("weft", 0)])

    def test_all_lift_with_each_thread_of_a_cloth_that_hangs_together(self):
        for thread in ALL_PLAIN:
            self.assertEqual(lifts_with(PLAIN, thread), ALL_PLAIN)

    def test_one_weft_and_one_warp(self):
        self.assertEqual(lifts_with(((1, 0, 1),), ("weft", 0)), [("warp", 0), ("warp", 2), ("weft", 0)])
        self.assertEqual(lifts_with(((1, 0, 1),), ("warp", 1)), threads(((1, 0, 1),)))
        self.assertEqual(lifts_with(((1,), (0,), (0,)), ("warp", 0)), [("warp", 0), ("weft", 1), ("weft", 2)])

    def test_a_thread_that_lies_above_at_all_or_below_at_all(self):
        self.assertEqual(lifts_with(WIDE, ("warp", 1)), [("warp", 1)])
        under = ((1, 1, 1), (0, 1, 0), (1, 0, 1))
        self.assertEqual(lifts_with(under, ("weft", 0)), threads(under))
        self.assertNotIn(("weft", 0), lifts_with(under, ("weft", 1)))

    def test_the_least_set_for_all_small_cloths(self):
        for cloth in all_cloths(3, 3):
            for thread in threads(cloth):
                self.assertEqual(lifts_with(cloth, thread), least_by_trying(cloth, thread))

    def test_16_of_them_along_a_long_way(self):
        # Of 32 threads each but the first lies just below the one ahead: weft 0, warp 0, weft 1, warp 1 and so on.
        stair = tuple(tuple(0 if warp >= weft else 1 for warp in range(16)) for weft in range(16))
        self.assertEqual(lifts_with(stair, ("weft", 0)), [("weft", 0)])
        self.assertEqual(lifts_with(stair, ("warp", 2)), [(kind, k) for kind in ("warp", "weft") for k in range(3)])
        self.assertEqual(lifts_with(stair, ("warp", 15)), threads(stair))

    def test_numbers_of_two_digits_come_behind_those_of_one(self):
        told = lifts_with(satin(16, 3), ("weft", 11))
        self.assertEqual(told, [("warp", k) for k in range(16)] + [("weft", k) for k in range(16)])

    def test_somewhat_beyond_16_nothing_is_refused(self):
        self.assertEqual(lifts_with(((0,) * 17,) * 18, ("weft", 17)), [("weft", 17)])
        self.assertEqual(len(lifts_with(((0,) * 17,) * 18, ("warp", 16))), 19)

    def test_threads_that_the_cloth_has_not(self):
        for thread in (("warp", 5), ("weft", 3), ("weft", 4), ("warp", 16), ("weft", 16), ("warp", -1), ("weft", -3)):
            with self.subTest(thread=thread):
                self.assert_refused(NoThread, lifts_with, WIDE, thread)
        self.assert_refused(NoThread, lifts_with, ((0,),), ("weft", 1))

    def test_no_thread_at_all(self):
        for thing in things_of_any_kind() + [0, 1, ["warp", 0], [("warp", 0)], "warp0", {"warp": 0}]:
            self.assert_refused(NoThread, lifts_with, WIDE, thing)

    def test_no_number_and_no_name_of_a_thread(self):
        for thing in things_in_the_place_of_a_number():
            self.assert_refused(NoThread, lifts_with, WIDE, ("warp", thing))
            self.assert_refused(NoThread, lifts_with, WIDE, ("weft", thing))
        for thing in ["weft ", "Warp", "wef", b"warp", 0, 1, True, None]:
            self.assert_refused(NoThread, lifts_with, WIDE, (thing, 0))


class IsLiftTest(RefusalCase):
    def test_some_threads(self):
        self.assertIs(is_lift(WIDE, [("warp", 1)]), True)
        self.assertIs(is_lift(WIDE, [("warp", 0)]), False)
        self.assertIs(is_lift(((1,),), [("warp", 0)]), True)
        self.assertIs(is_lift(((1,),), [("weft", 0)]), False)
        self.assertIs(is_lift(((0,),), [("warp", 0)]), False)
        self.assertIs(is_lift(((0,),), [("weft", 0)]), True)

    def test_no_threads_and_all_threads_are_none(self):
        for cloth in (PLAIN, WIDE, ((0,),), ((1,),), ((0,) * 16,) * 16):
            self.assertIs(is_lift(cloth, []), False)
            self.assertIs(is_lift(cloth, threads(cloth)), False)
            self.assertIs(is_lift(cloth, threads(cloth)[::-1]), False)

    def test_threads_in_any_order_and_twice(self):
        cloth = ((1, 0, 1),)
        self.assertIs(is_lift(cloth, [("weft", 0), ("warp", 2), ("warp", 0)]), True)
        self.assertIs(is_lift(cloth, [("warp", 2), ("warp", 2)]), True)
        self.assertIs(is_lift(cloth, [("weft", 0), ("warp", 2), ("warp", 2)]), False)
        self.assertIs(is_lift(cloth, threads(cloth) + threads(cloth)), False)

    def test_all_lists_of_threads_of_small_cloths(self):
        for cloth in all_cloths(3, 3):
            every = threads(cloth)
            lifts = lifts_by_trying(cloth)
            for size in range(len(every) + 1):
                for some in combinations(every, size):
                    self.assertIs(is_lift(cloth, list(some)), list(some) in lifts)

    def test_16_of_them(self):
        cloth = ((1,) * 16,) * 16
        self.assertIs(is_lift(cloth, [("warp", k) for k in range(16)]), True)
        self.assertIs(is_lift(cloth, [("warp", 15)]), True)
        self.assertIs(is_lift(cloth, [("warp", k) for k in range(16)] + [("weft", 15)]), True)
        self.assertIs(is_lift(cloth, [("warp", k) for k in range(15)] + [("weft", 15)]), False)

    def test_one_of_the_list_is_no_thread(self):
        wrong = [("warp", 2), ("weft", 2), ("warp", 16), ("weft", -1), ("warp", True), ("weft", False), ["warp", 0], 0]
        for thing in things_of_any_kind() + wrong:
            self.assert_refused(NoThread, is_lift, PLAIN, [thing])
            self.assert_refused(NoThread, is_lift, PLAIN, [("warp", 0), thing])
            self.assert_refused(NoThread, is_lift, PLAIN, [thing, ("warp", 0)])
            self.assert_refused(NoThread, is_lift, PLAIN, ALL_PLAIN + [thing])

    def test_no_number_of_a_thread(self):
        for thing in things_in_the_place_of_a_number():
            self.assert_refused(NoThread, is_lift, PLAIN, [("weft", thing)])
            self.assert_refused(NoThread, is_lift, PLAIN, [("weft", 1), ("warp", thing)])

    def test_no_list_at_all(self):
        wrong = [0, 1, ("warp", 0), tuple(ALL_PLAIN), {("warp", 0)}, {("warp", 0): True}, iter(ALL_PLAIN), "warp"]
        for thing in things_of_any_kind() + wrong:
            if not (isinstance(thing, list) and thing == []):
                self.assert_refused(NoThread, is_lift, PLAIN, thing)

    def test_a_list_that_holds_itself(self):
        some = []
        some.append(some)
        self.assert_refused(NoThread, is_lift, PLAIN, some)


class LayersTest(unittest.TestCase):
    def test_one_crossing(self):
        self.assertEqual(layers(((1,),)), [[("warp", 0)], [("weft", 0)]])
        self.assertEqual(layers(((0,),)), [[("weft", 0)], [("warp", 0)]])

    def test_one_layer(self):
        self.assertEqual(layers(PLAIN), [ALL_PLAIN])

    def test_in_order_of_how_many_threads_lift_with_them(self):
        # The weft of two warps lies between them, so the warps' order is not their numbers' order.
        self.assertEqual(layers(((0, 1),)), [[("warp", 1)], [("weft", 0)], [("warp", 0)]])
        self.assertEqual(layers(((0,), (1,))), [[("weft", 0)], [("warp", 0)], [("weft", 1)]])

    def test_the_count_is_of_threads_that_lift_and_not_of_threads_of_the_layer(self):
        cloth = woven_as_one(PLAIN, PLAIN)
        cloth = cloth + ((1, 1, 1, 1),)
        self.assertEqual([len(layer) for layer in layers(cloth)], [4, 4, 1])
        self.assertEqual(layers(cloth)[2], [("weft", 4)])

    def test_layers_of_as_many_come_in_order_of_their_first_threads(self):
        self.assertEqual(layers(((1, 1, 1),)), [[("warp", 0)], [("warp", 1)], [("warp", 2)], [("weft", 0)]])
        self.assertEqual(layers(((0, 0),) * 2), [[("weft", 0)], [("weft", 1)], [("warp", 0)], [("warp", 1)]])
        self.assertEqual(layers(((1, 0, 0),) * 2),
                         [[("warp", 0)], [("weft", 0)], [("weft", 1)], [("warp", 1)], [("warp", 2)]])
        told = layers(((1,) * 16,) * 16)
        self.assertEqual(told, [[thread] for thread in threads(((1,) * 16,) * 16)])

    def test_all_small_cloths(self):
        for cloth in all_cloths(3, 3):
            lifting = {thread: least_by_trying(cloth, thread) for thread in threads(cloth)}
            expected = {tuple(one for one in lifting if one in lifting[other] and other in lifting[one])
                        for other in lifting}
            expected = sorted(expected, key=lambda layer: (len(lifting[layer[0]]), layer[0]))
            self.assertEqual(layers(cloth), [list(layer) for layer in expected])

    def test_16_of_them(self):
        self.assertEqual(layers(satin(16, 5)), [threads(satin(16, 5))])
        stair = tuple(tuple(0 if warp >= weft else 1 for warp in range(16)) for weft in range(16))
        self.assertEqual(layers(stair), [[(kind, k)] for k in range(16) for kind in ("weft", "warp")])

    def test_the_lists_and_the_lists_within_are_new_each_time(self):
        told = layers(((1, 1),))
        for layer in told:
            layer.clear()
        told.clear()
        self.assertEqual(layers(((1, 1),)), [[("warp", 0)], [("warp", 1)], [("weft", 0)]])


class HangsTogetherTest(unittest.TestCase):
    def test_cloths_that_do(self):
        for cloth in (PLAIN, satin(5, 2), twill([1, 1, 0, 0], 1), satin(16, 3), ((1, 0, 1), (0, 1, 0))):
            with self.subTest(cloth=cloth):
                self.assertIs(hangs_together(cloth), True)
                self.assertIsNone(a_lift(cloth))

    def test_cloths_that_do_not(self):
        for cloth in (((1,),), ((0,),), ((1, 0),), ((1,), (0,)), WIDE, ((1, 0), (1, 0)), ((0,) * 16,) * 16,
                      woven_as_one(PLAIN, PLAIN), ((1, 0, 1), (0, 0, 1), (1, 0, 0))):
            with self.subTest(cloth=cloth):
                self.assertIs(hangs_together(cloth), False)
                self.assertIsNotNone(a_lift(cloth))

    def test_just_if_there_is_no_lift_in_all_small_cloths(self):
        for cloth in all_cloths(3, 3):
            lifts = lifts_by_trying(cloth)
            self.assertIs(hangs_together(cloth), lifts == [])
            told = a_lift(cloth)
            if lifts == []:
                self.assertIsNone(told)
            else:
                self.assertIn(told, lifts)
                self.assertEqual(told, sorted(told))
                self.assertIs(is_lift(cloth, told), True)

    def test_just_if_there_is_one_layer(self):
        for cloth in all_cloths(3, 3):
            self.assertIs(hangs_together(cloth), len(layers(cloth)) == 1)

    def test_a_lift_of_greater_cloths(self):
        for seed in range(40):
            cloth = patterned_cloth(seed, 16 - seed % 3, 15 + seed % 2)
            told = a_lift(cloth)
            self.assertIs(told is None, hangs_together(cloth))
            if told is not None:
                self.assertTrue(0 < len(told) < len(threads(cloth)))
                self.assertTrue(no_other_lies_above(cloth, told))

    def test_the_list_is_new_each_time(self):
        first = a_lift(WIDE)
        kept = list(first)
        first.clear()
        self.assertEqual(a_lift(WIDE), kept)


class WovenAsOneTest(RefusalCase):
    def test_two_crossings(self):
        self.assertEqual(woven_as_one(((1,),), ((0,),)), ((1, 0), (1, 0)))
        self.assertEqual(woven_as_one(((0,),), ((1,),)), ((0, 0), (1, 1)))

    def test_cloths_of_one_size(self):
        self.assertEqual(woven_as_one(PLAIN, ((0, 0), (1, 0))),
                         ((1, 0, 0, 0), (1, 0, 1, 0), (0, 0, 1, 0), (1, 1, 1, 0)))

    def test_cloths_of_unlike_sizes_come_again(self):
        self.assertEqual(woven_as_one(((1, 0, 0),), ((1,), (0,))),
                         ((1, 0, 0, 0, 0, 0), (1, 1, 1, 1, 1, 1), (1, 0, 0, 0, 0, 0), (1, 0, 1, 0, 1, 0)))
        self.assertEqual(woven_as_one(((1,), (0,)), ((1, 0, 0),)),
                         ((1, 0, 1, 0, 1, 0), (1, 1, 1, 0, 1, 0), (0, 0, 0, 0, 0, 0), (1, 1, 1, 0, 1, 0)))

    def test_sizes_that_do_not_divide_one_another(self):
        for upper, lower in ((patterned_cloth(1, 2, 5), patterned_cloth(2, 3, 4)),
                             (patterned_cloth(3, 8, 3), patterned_cloth(4, 5, 8))):
            self.assert_woven(upper, lower)

    def test_all_pairs_of_small_cloths(self):
        for upper in all_cloths(2, 2):
            for lower in all_cloths(2, 2):
                self.assert_woven(upper, lower)

    def assert_woven(self, upper, lower):
        told = woven_as_one(upper, lower)
        self.assertEqual(checked(told), told)
        self.assertEqual(len(told), 2 * max(len(upper), len(lower)))
        self.assertEqual(len(told[0]), 2 * max(len(upper[0]), len(lower[0])))
        for weft in range(len(told)):
            for warp in range(len(told[0])):
                warp_lies_above = above(told, ("warp", warp), ("weft", weft))
                if weft % 2 == 0 and warp % 2 == 1:
                    self.assertFalse(warp_lies_above)
                elif weft % 2 == 1 and warp % 2 == 0:
                    self.assertTrue(warp_lies_above)
                else:
                    cloth = lower if weft % 2 == 1 else upper
                    bit = cloth[weft // 2 % len(cloth)][warp // 2 % len(cloth[0])]
                    self.assertEqual(warp_lies_above, bit == 1)

    def test_the_upper_cloth_is_a_lift(self):
        told = woven_as_one(satin(5, 2), PLAIN)
        upper = [thread for thread in threads(told) if thread[1] % 2 == 0]
        self.assertIs(is_lift(told, upper), True)
        self.assertIs(hangs_together(told), False)
        told = woven_as_one(PLAIN, PLAIN)
        self.assertEqual(layers(told), [[thread for thread in threads(told) if thread[1] % 2 == k] for k in (0, 1)])

    def test_to_16_threads(self):
        self.assert_woven(patterned_cloth(5, 8, 8), patterned_cloth(6, 8, 8))
        self.assert_woven(((1,),), patterned_cloth(7, 8, 8))
        self.assert_woven(patterned_cloth(8, 8, 1), patterned_cloth(9, 1, 8))

    def test_beyond_16_threads(self):
        small = ((1,),)
        for height, width in ((9, 1), (1, 9), (9, 9), (16, 16), (16, 1), (1, 16), (9, 8), (8, 9), (17, 17)):
            with self.subTest(height=height, width=width):
                great = patterned_cloth(1, height, width)
                self.assert_refused(TooBig, woven_as_one, great, small)
                self.assert_refused(TooBig, woven_as_one, small, great)
                self.assert_refused(TooBig, woven_as_one, great, great)


if __name__ == "__main__":
    unittest.main()
