import unittest
from itertools import combinations, product

from refusals import RefusalCase
from things import all_cloths, things_in_the_place_of_a_number, things_of_any_kind
from weavehall.cloths import checked
from weavehall.errors import BadLoom
from weavehall.looms import checked_loom, cloth_of, least_loom

LOOM = ((0, 1, 0), ((0,), (1,)), (0, 1, 1, 0))


def good_looms():
    full = tuple(range(16))
    return [
        LOOM,
        ((0,), ((),), (0,)),
        ((15,), ((15,),), (0,)),
        ((15, 0), ((3, 9), ()), (1,)),
        (full, tuple((k,) for k in full), full),
        (full, (full,) * 16, (15,) * 16),
        ((0,) * 16, ((),), (0,) * 16),
        ((0,), ((0,), (1,), (2,)), (2,)),
    ]


def is_same_tuple(thing, other):
    """Asked by kind first: some things hold themselves equal to all."""
    return isinstance(thing, tuple) and thing == other


def all_looms(height, width, most):
    """All looms of this many wefts and warps, with shafts and treadles up to the greatest number."""
    ties_of_one = [tie for size in range(most + 1) for tie in combinations(range(most), size)]
    for treadles in range(1, most + 1):
        for ties in product(ties_of_one, repeat=treadles):
            for threading in product(range(most), repeat=width):
                for treading in product(range(treadles), repeat=height):
                    yield (threading, ties, treading)


class BadLoomCase(RefusalCase):
    def assert_bad(self, loom):
        self.assert_refused(BadLoom, checked_loom, loom)
        self.assert_refused(BadLoom, cloth_of, loom)


class CheckedLoomTest(BadLoomCase):
    def test_looms_are_told_as_they_are(self):
        for loom in good_looms():
            with self.subTest(loom=loom):
                self.assertIs(checked_loom(loom), loom)

    def test_all_small_looms(self):
        for loom in all_looms(2, 2, 2):
            self.assertIs(checked_loom(loom), loom)

    def test_things_of_any_kind(self):
        for thing in things_of_any_kind() + [list(LOOM), LOOM[:2], LOOM + (LOOM[2],), LOOM[0], 0, 1]:
            self.assert_bad(thing)

    def test_things_of_any_kind_in_a_part(self):
        for thing in things_of_any_kind() + [[0, 1, 0], "010", 0, 1, range(1)]:
            self.assert_bad((thing, LOOM[1], LOOM[2]))
            self.assert_bad((LOOM[0], LOOM[1], thing))
        for thing in things_of_any_kind() + [[(0,), (1,)], ([0], [1]), "01", (0, 1), 0, 1]:
            if not is_same_tuple(thing, ((),)):
                self.assert_bad((LOOM[0], thing, LOOM[2]))
                self.assert_bad((LOOM[0], thing, (0,)))

    def test_things_of_any_kind_as_a_treadles_shafts(self):
        for thing in things_of_any_kind() + [[0], [0, 1], "0", {0}, {0: 0}, range(1), 0, 1]:
            if not is_same_tuple(thing, ()):
                self.assert_bad((LOOM[0], ((0,), thing), LOOM[2]))
                self.assert_bad((LOOM[0], (thing, (0,)), LOOM[2]))

    def test_no_numbers(self):
        for thing in things_in_the_place_of_a_number():
            self.assert_bad(((0, thing), ((0,), (1,)), (0, 1)))
            self.assert_bad(((0, 1), ((0,), (thing,)), (0, 1)))
            self.assert_bad(((0, 1), ((0,), (1,)), (0, thing)))
        self.assert_bad(((0, 1), ((0, True),), (0,)))
        self.assert_bad(((0, 1), ((False, 1),), (0,)))

    def test_too_many_and_too_few(self):
        for length in (0, 17, 40):
            with self.subTest(length=length):
                self.assert_bad(((0,) * length, ((0,),), (0,)))
                self.assert_bad(((0,), ((0,),) * length, (0,)))
                self.assert_bad(((0,), ((0,),), (0,) * length))
        self.assert_bad(((0,), (), ()))
        self.assert_bad(((0,), (tuple(range(17)),), (0,)))

    def test_shafts_beyond_15(self):
        for shaft in (16, 17, 100):
            with self.subTest(shaft=shaft):
                self.assert_bad(((shaft,), ((0,),), (0,)))
                self.assert_bad(((0,), ((shaft,),), (0,)))
                self.assert_bad(((0,), ((0, shaft),), (0,)))

    def test_treadles_beyond_the_ties(self):
        self.assert_bad(((0,), ((0,),), (1,)))
        self.assert_bad(((0,), ((0,), (1,)), (0, 2)))
        self.assert_bad(((0,), ((),) * 16, (16,)))

    def test_shafts_not_rising_or_twice_the_same(self):
        for tie in ((1, 0), (0, 0), (0, 2, 1), (0, 1, 1), (1, 1, 2), (15, 0), (0, 1, 0), (2, 1, 3)):
            with self.subTest(tie=tie):
                self.assert_bad(((0,), (tie,), (0,)))
                self.assert_bad(((0,), ((0,), tie), (0,)))

    def test_a_list_is_not_changed_when_refused(self):
        loom = [[0, 1], [[1, 0]], [0]]
        self.assert_bad(loom)
        self.assertEqual(loom, [[0, 1], [[1, 0]], [0]])


class ClothOfTest(unittest.TestCase):
    def test_a_1_where_the_treadle_lifts_the_shaft(self):
        self.assertEqual(cloth_of(LOOM), ((1, 0, 1), (0, 1, 0), (0, 1, 0), (1, 0, 1)))

    def test_threading_and_treading_are_not_taken_for_one_another(self):
        self.assertEqual(cloth_of(((0, 1, 2), ((0, 1),), (0,))), ((1, 1, 0),))
        self.assertEqual(cloth_of(((1,), ((0,), (1,), (0, 1)), (0, 1, 2))), ((0,), (1,), (1,)))

    def test_a_treadle_that_lifts_nothing(self):
        self.assertEqual(cloth_of(((0, 1), ((), (0, 1)), (0, 1, 0))), ((0, 0), (1, 1), (0, 0)))
        self.assertEqual(cloth_of(((0,), ((),), (0,))), ((0,),))

    def test_shafts_without_warps_and_treadles_without_wefts(self):
        self.assertEqual(cloth_of(((15, 0), ((3, 9), (15,), (9,)), (1, 0))), ((1, 0), (0, 0)))

    def test_16_of_each(self):
        full = tuple(range(16))
        ties = tuple((k,) for k in full)
        told = cloth_of((full, ties, full))
        self.assertEqual(told, tuple(tuple(1 if k == j else 0 for j in full) for k in full))

    def test_it_is_a_cloth(self):
        for loom in good_looms():
            with self.subTest(loom=loom):
                self.assertEqual(checked(cloth_of(loom)), cloth_of(loom))


class LeastLoomTest(unittest.TestCase):
    def test_numbered_in_order_of_first_standing(self):
        cloth = ((0, 1, 0, 1), (1, 0, 1, 1), (0, 1, 0, 1))
        self.assertEqual(least_loom(cloth), ((0, 1, 0, 2), ((1, 2), (0, 2)), (0, 1, 0)))

    def test_all_alike(self):
        self.assertEqual(least_loom(((0, 0), (0, 0))), ((0, 0), ((),), (0, 0)))
        self.assertEqual(least_loom(((1, 1), (1, 1))), ((0, 0), ((0,),), (0, 0)))

    def test_one_crossing(self):
        self.assertEqual(least_loom(((0,),)), ((0,), ((),), (0,)))
        self.assertEqual(least_loom(((1,),)), ((0,), ((0,),), (0,)))

    def test_all_unlike_16(self):
        full = tuple(range(16))
        cloth = tuple(tuple(1 if k + j == 15 else 0 for j in full) for k in full)
        self.assertEqual(least_loom(cloth), (full, tuple((15 - k,) for k in full), full))

    def test_it_is_a_loom_and_makes_the_cloth(self):
        for cloth in all_cloths(3, 4):
            loom = least_loom(cloth)
            self.assertEqual(checked_loom(loom), loom)
            self.assertEqual(cloth_of(loom), cloth)

    def test_shafts_are_the_unlike_columns_and_treadles_the_unlike_rows(self):
        for cloth in all_cloths(3, 4):
            threading, ties, treading = least_loom(cloth)
            columns = list(zip(*cloth))
            unlike = list(dict.fromkeys(columns))
            self.assertEqual(threading, tuple(unlike.index(line) for line in columns))
            rows = list(dict.fromkeys(cloth))
            self.assertEqual(treading, tuple(rows.index(row) for row in cloth))
            self.assertEqual(len(ties), len(rows))
            for tie in ties:
                self.assertLessEqual(set(tie), set(threading))

    def test_no_loom_makes_the_cloth_with_fewer(self):
        for height, width, most in ((2, 2, 2), (3, 2, 2), (2, 3, 2), (1, 3, 3), (2, 2, 3)):
            for loom in all_looms(height, width, most):
                least = least_loom(cloth_of(loom))
                self.assertLessEqual(len(set(least[0])), len(set(loom[0])))
                self.assertLessEqual(len(set(least[2])), len(set(loom[2])))


if __name__ == "__main__":
    unittest.main()
