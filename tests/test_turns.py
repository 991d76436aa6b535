import unittest

from things import all_cloths, patterned_cloth
from weavehall.cloths import above, checked, threads
from weavehall.turns import is_one_weave, mirrored, moved_on, turned_about, turned_over
from weavehall.weaves import satin, twill

WIDE = ((1, 0, 0), (0, 1, 1))


def some_cloths():
    return all_cloths(3, 3) + [patterned_cloth(seed, 16 - seed % 2, 15 + seed % 3) for seed in range(6)]


class TurnedOverTest(unittest.TestCase):
    def test_seen_from_below_with_the_last_warp_first(self):
        self.assertEqual(turned_over(WIDE), ((1, 1, 0), (0, 0, 1)))
        self.assertEqual(turned_over(((1,), (0,))), ((0,), (1,)))
        self.assertEqual(turned_over(((1, 1, 0),)), ((1, 0, 0),))

    def test_one_crossing(self):
        self.assertEqual(turned_over(((1,),)), ((0,),))
        self.assertEqual(turned_over(((0,),)), ((1,),))

    def test_what_lay_above_lies_below(self):
        for cloth in some_cloths():
            told = turned_over(cloth)
            self.assertEqual((len(told), len(told[0])), (len(cloth), len(cloth[0])))
            for weft in range(len(cloth)):
                for warp in range(len(cloth[0])):
                    there = ("warp", len(cloth[0]) - 1 - warp)
                    self.assertIs(above(told, there, ("weft", weft)), above(cloth, ("weft", weft), ("warp", warp)))

    def test_twice_is_the_cloth(self):
        for cloth in some_cloths():
            self.assertEqual(turned_over(turned_over(cloth)), cloth)


class MirroredTest(unittest.TestCase):
    def test_the_last_warp_first_as_it_lies(self):
        self.assertEqual(mirrored(WIDE), ((0, 0, 1), (1, 1, 0)))
        self.assertEqual(mirrored(((1,), (0,))), ((1,), (0,)))
        self.assertEqual(mirrored(((1, 1, 0),)), ((0, 1, 1),))
        self.assertEqual(mirrored(((1,),)), ((1,),))

    def test_each_warp_lies_as_it_lay(self):
        for cloth in some_cloths():
            self.assertEqual(list(zip(*mirrored(cloth))), list(zip(*cloth))[::-1])
            self.assertEqual(mirrored(mirrored(cloth)), cloth)


class TurnedAboutTest(unittest.TestCase):
    def test_rows_are_the_columns(self):
        self.assertEqual(turned_about(WIDE), ((0, 1), (1, 0), (1, 0)))
        self.assertEqual(turned_about(((1, 1, 0),)), ((0,), (0,), (1,)))
        self.assertEqual(turned_about(((1,), (0,))), ((0, 1),))
        self.assertEqual(turned_about(((1,),)), ((0,),))
        self.assertEqual(turned_about(((0,),)), ((1,),))

    def test_what_was_above_lies_above(self):
        for cloth in some_cloths():
            told = turned_about(cloth)
            self.assertEqual((len(told), len(told[0])), (len(cloth[0]), len(cloth)))
            for weft in range(len(cloth)):
                for warp in range(len(cloth[0])):
                    was = above(cloth, ("warp", warp), ("weft", weft))
                    self.assertIs(above(told, ("weft", warp), ("warp", weft)), was)

    def test_twice_is_the_cloth(self):
        for cloth in some_cloths():
            self.assertEqual(turned_about(turned_about(cloth)), cloth)


class MovedOnTest(unittest.TestCase):
    def test_it_begins_there(self):
        self.assertEqual(moved_on(WIDE, 1, 0), ((0, 1, 1), (1, 0, 0)))
        self.assertEqual(moved_on(WIDE, 0, 1), ((0, 0, 1), (1, 1, 0)))
        self.assertEqual(moved_on(WIDE, 1, 2), ((1, 0, 1), (0, 1, 0)))

    def test_by_0_and_by_all_is_the_cloth(self):
        for cloth in some_cloths():
            height, width = len(cloth), len(cloth[0])
            for wefts, warps in ((0, 0), (height, 0), (0, width), (height, width), (5 * height, 7 * width)):
                self.assertEqual(moved_on(cloth, wefts, warps), cloth)

    def test_by_some_and_by_more_than_there_are(self):
        for cloth in some_cloths():
            height, width = len(cloth), len(cloth[0])
            for wefts, warps in ((1, 1), (2, 5), (height + 1, width - 1), (17, 40), (1000, 0), (10 ** 40, 10 ** 40 + 1)):
                expected = tuple(tuple(cloth[(i + wefts) % height][(j + warps) % width] for j in range(width))
                                 for i in range(height))
                self.assertEqual(moved_on(cloth, wefts, warps), expected)

    def test_one_weft_and_one_warp(self):
        self.assertEqual(moved_on(((1, 0, 0),), 3, 1), ((0, 0, 1),))
        self.assertEqual(moved_on(((1,), (0,), (0,)), 2, 9), ((0,), (1,), (0,)))


class IsOneWeaveTest(unittest.TestCase):
    def test_a_cloth_and_itself_moved_on(self):
        for cloth in some_cloths():
            self.assertIs(is_one_weave(cloth, cloth), True)
            for wefts, warps in ((0, 1), (1, 0), (1, 1), (15, 14), (3, 16)):
                self.assertIs(is_one_weave(cloth, moved_on(cloth, wefts, warps)), True)
                self.assertIs(is_one_weave(moved_on(cloth, wefts, warps), cloth), True)

    def test_unlike_sizes(self):
        self.assertIs(is_one_weave(((1, 1), (1, 1)), ((1, 1),)), False)
        self.assertIs(is_one_weave(((1,), (1,)), ((1, 1), (1, 1))), False)
        self.assertIs(is_one_weave(((1, 1),), ((1,), (1,))), False)
        self.assertIs(is_one_weave(((1, 0), (0, 1)), ((1, 0) * 2, (0, 1) * 2)), False)

    def test_unlike_cloths_of_one_size(self):
        self.assertIs(is_one_weave(((0, 0),), ((0, 1),)), False)
        self.assertIs(is_one_weave(twill([1, 1, 0, 0], 1), twill([1, 0, 1, 0], 1)), False)
        self.assertIs(is_one_weave(satin(5, 2), satin(5, 1)), False)
        self.assertIs(is_one_weave(twill([1, 1, 0], 1), mirrored(twill([1, 1, 0], 1))), False)

    def test_all_pairs_of_small_cloths(self):
        cloths = [cloth for cloth in all_cloths(2, 3)]
        for one in cloths:
            moved = {moved_on(one, wefts, warps) for wefts in range(len(one)) for warps in range(len(one[0]))}
            for other in cloths:
                self.assertIs(is_one_weave(one, other), other in moved)

    def test_16_of_them(self):
        cloth = patterned_cloth(2, 16, 16)
        changed = ((1 - cloth[0][0],) + cloth[0][1:],) + cloth[1:]
        self.assertIs(is_one_weave(cloth, moved_on(cloth, 15, 15)), True)
        self.assertIs(is_one_weave(cloth, moved_on(changed, 15, 15)), False)


class AreClothsTest(unittest.TestCase):
    def test_all_turns_are_cloths(self):
        for cloth in all_cloths(3, 3) + [((0,) * 16,) * 16, ((1,),) * 16]:
            for told in (turned_over(cloth), mirrored(cloth), turned_about(cloth), moved_on(cloth, 1, 2)):
                self.assertEqual(checked(told), told)

    def test_somewhat_beyond_16_nothing_is_refused(self):
        cloth = ((1,) + (0,) * 16,) * 18
        self.assertEqual(turned_over(cloth), ((1,) * 16 + (0,),) * 18)
        self.assertEqual(mirrored(cloth), ((0,) * 16 + (1,),) * 18)
        self.assertEqual(len(threads(turned_about(cloth))), 35)
        self.assertEqual(moved_on(cloth, 18, 16), ((0, 1) + (0,) * 15,) * 18)


if __name__ == "__main__":
    unittest.main()
