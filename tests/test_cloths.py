import unittest

from refusals import RefusalCase
from things import all_cloths, things_in_the_place_of_a_number, things_of_any_kind
from weavehall.cloths import above, checked, threads
from weavehall.errors import BadCloth

PLAIN = ((1, 0), (0, 1))
WIDE = ((1, 0, 0), (0, 1, 1))


class CheckedTest(RefusalCase):
    def test_cloths_are_told_as_they_are(self):
        for cloth in all_cloths(3, 3):
            self.assertIs(checked(cloth), cloth)

    def test_1_and_16_rows_and_bits(self):
        for height in (1, 2, 15, 16):
            for width in (1, 2, 15, 16):
                with self.subTest(height=height, width=width):
                    cloth = ((1,) * width,) * height
                    self.assertEqual(checked(cloth), cloth)

    def test_too_many_and_too_few(self):
        for height, width in ((0, 1), (1, 0), (16, 0), (17, 1), (1, 17), (17, 16), (16, 17), (40, 40)):
            with self.subTest(height=height, width=width):
                self.assert_refused(BadCloth, checked, ((0,) * width,) * height)

    def test_rows_of_unlike_lengths(self):
        for cloth in (((1,), (1, 0)), ((1, 0), (1,)), ((1, 0), (0, 1), (1,)), ((1,), ()), ((), (1,)),
                      ((0,), (0, 1), (0,))):
            with self.subTest(cloth=cloth):
                self.assert_refused(BadCloth, checked, cloth)

    def test_no_bits(self):
        for thing in things_in_the_place_of_a_number() + [2, 15, 16]:
            self.assert_refused(BadCloth, checked, ((thing,),))
            self.assert_refused(BadCloth, checked, ((0, 1), (1, thing)))
            self.assert_refused(BadCloth, checked, ((thing, 1), (1, 0)))

    def test_no_rows(self):
        for thing in things_of_any_kind() + [[0, 1], "01", b"01", {0: 0, 1: 1}, 2]:
            self.assert_refused(BadCloth, checked, (thing,))
            self.assert_refused(BadCloth, checked, ((0, 1), thing))
            self.assert_refused(BadCloth, checked, (thing, (0, 1)))

    def test_things_of_any_kind(self):
        for thing in things_of_any_kind() + [[(0, 1), (1, 0)], (0, 1), 0, 1]:
            self.assert_refused(BadCloth, checked, thing)

    def test_a_list_of_rows_is_not_changed_when_refused(self):
        rows = [[1, 0], [0, 1]]
        self.assert_refused(BadCloth, checked, rows)
        self.assertEqual(rows, [[1, 0], [0, 1]])


class ThreadsTest(unittest.TestCase):
    def test_all_threads_rising(self):
        self.assertEqual(threads(WIDE), [("warp", 0), ("warp", 1), ("warp", 2), ("weft", 0), ("weft", 1)])
        self.assertEqual(threads(((0,),)), [("warp", 0), ("weft", 0)])

    def test_sixteen_are_in_order_of_number(self):
        told = threads(((0,) * 16,) * 16)
        self.assertEqual(told, [("warp", k) for k in range(16)] + [("weft", k) for k in range(16)])
        self.assertEqual(told, sorted(told))

    def test_one_row_and_one_column(self):
        self.assertEqual(threads(((1, 0),)), [("warp", 0), ("warp", 1), ("weft", 0)])
        self.assertEqual(threads(((1,), (0,))), [("warp", 0), ("weft", 0), ("weft", 1)])

    def test_the_list_is_new_each_time(self):
        told = threads(PLAIN)
        told.clear()
        self.assertEqual(threads(PLAIN), [("warp", 0), ("warp", 1), ("weft", 0), ("weft", 1)])
        self.assertIsNot(threads(PLAIN), threads(PLAIN))


class AboveTest(unittest.TestCase):
    def test_a_1_tells_that_the_warp_lies_above(self):
        self.assertIs(above(WIDE, ("warp", 0), ("weft", 0)), True)
        self.assertIs(above(WIDE, ("weft", 0), ("warp", 0)), False)

    def test_a_0_tells_that_the_weft_lies_above(self):
        self.assertIs(above(WIDE, ("warp", 2), ("weft", 0)), False)
        self.assertIs(above(WIDE, ("weft", 0), ("warp", 2)), True)

    def test_every_crossing_of_small_cloths(self):
        for cloth in all_cloths(3, 3):
            for weft, row in enumerate(cloth):
                for warp, bit in enumerate(row):
                    self.assertIs(above(cloth, ("warp", warp), ("weft", weft)), bit == 1)
                    self.assertIs(above(cloth, ("weft", weft), ("warp", warp)), bit == 0)


if __name__ == "__main__":
    unittest.main()
