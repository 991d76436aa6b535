import unittest
from itertools import groupby, product
from math import gcd

from refusals import RefusalCase
from things import all_cloths, things_in_the_place_of_a_number, things_of_any_kind
from weavehall.cloths import checked, threads
from weavehall.errors import NoThread
from weavehall.weaves import float_of, is_even, longest_float, satin, twill

PLAIN = ((1, 0), (0, 1))
WIDE = ((1, 1, 0, 1, 1), (0, 1, 0, 0, 0), (0, 1, 1, 1, 0))


def run_by_repeating(bits):
    """The longest run along a thread that comes again, found on three repeats of it."""
    if len(set(bits)) == 1:
        return None
    return max(len(list(run)) for _, run in groupby(list(bits) * 3))


class FloatOfTest(RefusalCase):
    def test_above_and_below_count_alike(self):
        self.assertEqual(float_of(((1, 0, 0, 0, 1, 0, 1, 0),), ("weft", 0)), 3)
        self.assertEqual(float_of(((0, 1, 1, 1, 0, 1, 0, 1),), ("weft", 0)), 3)
        self.assertEqual(float_of(((1,), (0,), (0,), (1,), (0,)), ("warp", 0)), 2)

    def test_plain(self):
        for thread in threads(PLAIN):
            with self.subTest(thread=thread):
                self.assertEqual(float_of(PLAIN, thread), 1)

    def test_round_the_edge(self):
        self.assertEqual(float_of(WIDE, ("weft", 0)), 4)
        self.assertEqual(float_of(WIDE, ("weft", 1)), 4)
        self.assertEqual(float_of(WIDE, ("weft", 2)), 3)
        self.assertEqual(float_of(((0,), (1,), (1,), (0,), (0,)), ("warp", 0)), 3)
        self.assertEqual(float_of(((1,), (0,), (1,)), ("warp", 0)), 2)

    def test_none_if_it_lies_above_or_below_at_all(self):
        self.assertIsNone(float_of(WIDE, ("warp", 1)))
        self.assertIsNone(float_of(((1, 0), (1, 0)), ("warp", 0)))
        self.assertIsNone(float_of(((1, 0), (1, 0)), ("warp", 1)))
        self.assertIsNone(float_of(((1, 1), (0, 0)), ("weft", 0)))
        self.assertIsNone(float_of(((1, 1), (0, 0)), ("weft", 1)))

    def test_one_crossing_is_all(self):
        for bit in (0, 1):
            self.assertIsNone(float_of(((bit,),), ("warp", 0)))
            self.assertIsNone(float_of(((bit,),), ("weft", 0)))
        self.assertIsNone(float_of(((1, 0),), ("warp", 0)))
        self.assertEqual(float_of(((1, 0),), ("weft", 0)), 1)

    def test_the_longest_there_are(self):
        row = (0,) * 7 + (1,) + (0,) * 8
        self.assertEqual(float_of((row,) * 16, ("weft", 15)), 15)
        self.assertEqual(float_of(tuple((bit,) for bit in row), ("warp", 0)), 15)

    def test_all_small_cloths(self):
        for cloth in all_cloths(3, 4):
            for number, row in enumerate(cloth):
                self.assertEqual(float_of(cloth, ("weft", number)), run_by_repeating(row))
            for number, line in enumerate(zip(*cloth)):
                self.assertEqual(float_of(cloth, ("warp", number)), run_by_repeating(line))

    def test_all_rows_of_8(self):
        for row in product((0, 1), repeat=8):
            self.assertEqual(float_of((row,), ("weft", 0)), run_by_repeating(row))

    def test_threads_that_the_cloth_has_not(self):
        for thread in (("warp", 5), ("weft", 3), ("weft", 4), ("warp", 16), ("weft", 16), ("warp", -1), ("weft", -3)):
            with self.subTest(thread=thread):
                self.assert_refused(NoThread, float_of, WIDE, thread)
        self.assert_refused(NoThread, float_of, ((0,),), ("warp", 1))

    def test_no_thread_at_all(self):
        for thing in things_of_any_kind() + [0, 1, ["warp", 0], [("warp", 0)], "warp0", {"warp": 0}]:
            self.assert_refused(NoThread, float_of, WIDE, thing)

    def test_no_number_of_a_thread(self):
        for thing in things_in_the_place_of_a_number():
            self.assert_refused(NoThread, float_of, WIDE, ("warp", thing))
            self.assert_refused(NoThread, float_of, WIDE, ("weft", thing))

    def test_no_name_of_a_thread(self):
        for thing in things_of_any_kind() + ["weft ", "Warp", "WEFT", "wef", "warps", b"warp", 0, 1]:
            if not (isinstance(thing, str) and thing == "warp"):
                self.assert_refused(NoThread, float_of, WIDE, (thing, 0))


class LongestFloatTest(unittest.TestCase):
    def test_the_greatest_of_all(self):
        self.assertEqual(longest_float(PLAIN), 1)
        self.assertEqual(longest_float(((1, 0, 0), (0, 1, 0), (0, 0, 1))), 2)
        self.assertEqual(longest_float(((1, 1, 0, 0), (0, 0, 1, 1))), 2)
        self.assertEqual(longest_float(((1, 0), (1, 0), (0, 1), (0, 1), (0, 1))), 3)

    def test_none_if_some_thread_has_none(self):
        self.assertIsNone(longest_float(WIDE))
        self.assertIsNone(longest_float(((1, 0, 1), (0, 0, 1), (1, 1, 1))))
        self.assertIsNone(longest_float(((1, 0),)))
        self.assertIsNone(longest_float(((1,), (0,))))
        self.assertIsNone(longest_float(((1,),)))
        self.assertIsNone(longest_float(((0,) * 16,) * 16))

    def test_all_small_cloths(self):
        for cloth in all_cloths(3, 4):
            floats = [run_by_repeating(line) for line in list(cloth) + list(zip(*cloth))]
            self.assertEqual(longest_float(cloth), None if None in floats else max(floats))


class TwillTest(unittest.TestCase):
    def test_each_weft_is_moved_on_by_the_step(self):
        self.assertEqual(twill([1, 1, 0, 0], 1), ((1, 1, 0, 0), (0, 1, 1, 0), (0, 0, 1, 1), (1, 0, 0, 1)))
        self.assertEqual(twill([1, 0, 0], 2), ((1, 0, 0), (0, 0, 1), (0, 1, 0)))

    def test_a_step_of_0(self):
        self.assertEqual(twill([1, 0, 0], 0), ((1, 0, 0),) * 3)

    def test_a_step_of_the_size_and_greater(self):
        self.assertEqual(twill([1, 0, 0], 3), ((1, 0, 0),) * 3)
        self.assertEqual(twill([1, 0, 0], 4), ((1, 0, 0), (0, 1, 0), (0, 0, 1)))
        self.assertEqual(twill([1, 0, 0, 0], 15), twill([1, 0, 0, 0], 3))

    def test_1_and_16_bits(self):
        for step in range(16):
            self.assertEqual(twill([1], step), ((1,),))
            self.assertEqual(twill([0], step), ((0,),))
        bits = [1, 0, 1, 1, 0, 0, 0, 1, 1, 1, 1, 0, 0, 0, 0, 1]
        told = twill(bits, 15)
        self.assertEqual(told[0], tuple(bits))
        self.assertEqual(told[1], tuple(bits[1:] + bits[:1]))
        self.assertEqual(told[15], tuple(bits[15:] + bits[:15]))

    def test_small_twills_weft_by_weft(self):
        for size in range(1, 6):
            for bits in product((0, 1), repeat=size):
                for step in range(16):
                    told = twill(list(bits), step)
                    self.assertEqual(checked(told), told)
                    self.assertEqual((len(told), told[0]), (size, bits))
                    for ahead, row in zip(told, told[1:]):
                        cut = size - step % size
                        self.assertEqual(row, ahead[cut:] + ahead[:cut])

    def test_somewhat_beyond_the_bounds_nothing_is_refused(self):
        self.assertEqual(twill([1, 0, 0], 16), twill([1, 0, 0], 1))
        self.assertEqual(len(twill([1] + [0] * 16, 1)), 17)

    def test_the_list_of_bits_is_neither_changed_nor_kept(self):
        bits = [1, 0, 0]
        told = twill(bits, 1)
        self.assertEqual(bits, [1, 0, 0])
        bits[0] = 0
        self.assertEqual(told, ((1, 0, 0), (0, 1, 0), (0, 0, 1)))
        self.assertEqual(twill(bits, 1), ((0, 0, 0),) * 3)


class SatinTest(unittest.TestCase):
    def test_the_twill_of_a_1_and_noughts(self):
        self.assertEqual(satin(5, 2), ((1, 0, 0, 0, 0), (0, 0, 1, 0, 0), (0, 0, 0, 0, 1), (0, 1, 0, 0, 0),
                                       (0, 0, 0, 1, 0)))
        for size in range(1, 17):
            for step in range(16):
                self.assertEqual(satin(size, step), twill([1] + [0] * (size - 1), step))

    def test_size_1_step_0_and_step_greater_than_the_size(self):
        self.assertEqual(satin(1, 0), ((1,),))
        self.assertEqual(satin(2, 0), ((1, 0), (1, 0)))
        self.assertEqual(satin(3, 7), ((1, 0, 0), (0, 1, 0), (0, 0, 1)))

    def test_even_just_if_no_number_above_1_divides_size_and_step(self):
        for size in range(1, 17):
            for step in range(16):
                with self.subTest(size=size, step=step):
                    self.assertIs(is_even(satin(size, step)), gcd(size, step) == 1)


class IsEvenTest(unittest.TestCase):
    def test_even(self):
        for cloth in (PLAIN, ((0,),), ((1,),), ((1, 1), (1, 1)), ((1, 0, 1, 0), (0, 1, 0, 1)),
                      ((0,) * 16,) * 16, ((1,),) * 16):
            with self.subTest(cloth=cloth):
                self.assertIs(is_even(cloth), True)

    def test_rows_alone_are_not_enough(self):
        self.assertIs(is_even(((1, 0), (1, 0))), False)
        self.assertIs(is_even(((1, 0),)), False)

    def test_columns_alone_are_not_enough(self):
        self.assertIs(is_even(((1, 1), (0, 0))), False)
        self.assertIs(is_even(((1,), (0,))), False)

    def test_neither(self):
        self.assertIs(is_even(((1, 1), (1, 0))), False)

    def test_all_small_cloths(self):
        for cloth in all_cloths(3, 4):
            rows = {sum(row) for row in cloth}
            columns = {sum(line) for line in zip(*cloth)}
            self.assertIs(is_even(cloth), len(rows) == 1 and len(columns) == 1)


if __name__ == "__main__":
    unittest.main()
