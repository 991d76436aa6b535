import unittest
from itertools import product

from refusals import RefusalCase
from things import all_cloths, patterned_cloth, patterned_picture, things_in_the_place_of_a_number, things_of_any_kind
from weavehall.cloths import checked
from weavehall.colours import cloth_for, colours_for, shown_by
from weavehall.errors import BadColours

PLAIN = ((1, 0), (0, 1))
WIDE = ((1, 0, 0), (0, 1, 1))
KNOTTED = ((0, 1, 2), (1, 2, 0))


def all_pictures(height, width):
    return product(product((0, 1, 2), repeat=width), repeat=height)


def all_colours(width, height):
    for warps in product((0, 1, 2), repeat=width):
        for wefts in product((0, 1, 2), repeat=height):
            yield list(warps), list(wefts)


def colour_at_crossing(picture, one, other):
    """The picture's colour where two threads cross, or None if they do not."""
    if {one[0], other[0]} != {"warp", "weft"}:
        return None
    warp, weft = (one, other) if one[0] == "warp" else (other, one)
    return picture[weft[1]][warp[1]]


class BadColoursCase(RefusalCase):
    """Both functions are asked with each wrong list, in the place of the warps' and of the wefts' colours."""

    def assert_bad(self, warps, wefts):
        self.assert_refused(BadColours, shown_by, WIDE, warps, wefts)
        self.assert_refused(BadColours, cloth_for, KNOTTED, warps, wefts)

    def test_no_list_at_all(self):
        for thing in things_of_any_kind() + [0, 1, {0: 0, 1: 1, 2: 2}, {0, 1, 2}, range(3), "012", b"\x00\x01\x02"]:
            self.assert_bad(thing, [0, 1])
            self.assert_bad([0, 1, 2], thing)
            self.assert_bad(thing, thing)

    def test_a_tuple_is_no_list(self):
        self.assert_bad((0, 1, 2), [0, 1])
        self.assert_bad([0, 1, 2], (0, 1))

    def test_no_colour_in_the_list(self):
        for thing in things_in_the_place_of_a_number() + [3, 4, 15, 16]:
            self.assert_bad([thing, 0, 0], [0, 0])
            self.assert_bad([0, 0, thing], [0, 0])
            self.assert_bad([0, 0, 0], [thing, 0])
            self.assert_bad([0, 0, 0], [0, thing])

    def test_things_of_any_kind_in_the_list(self):
        for thing in things_of_any_kind():
            self.assert_bad([0, thing, 0], [0, 0])
            self.assert_bad([0, 0, 0], [0, thing])

    def test_too_many_and_too_few(self):
        for warps, wefts in (([], [0, 0]), ([0, 0], [0, 0]), ([0] * 4, [0, 0]), ([0] * 16, [0, 0]), ([0] * 3, []),
                             ([0] * 3, [0]), ([0] * 3, [0] * 3), ([0] * 3, [0] * 17), ([0, 0], [0, 0, 0]), ([], [])):
            with self.subTest(warps=warps, wefts=wefts):
                self.assert_bad(warps, wefts)


class ShownByTest(unittest.TestCase):
    def test_the_colour_of_the_thread_above(self):
        self.assertEqual(shown_by(WIDE, [0, 1, 2], [1, 0]), ((0, 1, 1), (0, 1, 2)))
        self.assertEqual(shown_by(PLAIN, [0, 1], [2, 2]), ((0, 2), (2, 1)))

    def test_one_crossing(self):
        for warp, weft in product((0, 1, 2), repeat=2):
            self.assertEqual(shown_by(((1,),), [warp], [weft]), ((warp,),))
            self.assertEqual(shown_by(((0,),), [warp], [weft]), ((weft,),))

    def test_all_above_and_all_below(self):
        self.assertEqual(shown_by(((1, 1), (1, 1)), [0, 2], [1, 1]), ((0, 2), (0, 2)))
        self.assertEqual(shown_by(((0, 0), (0, 0)), [0, 2], [1, 2]), ((1, 1), (2, 2)))

    def test_all_small_cloths(self):
        for cloth in all_cloths(2, 3):
            for warps, wefts in all_colours(len(cloth[0]), len(cloth)):
                told = shown_by(cloth, warps, wefts)
                expected = tuple(tuple((wefts[i], warps[j])[bit] for j, bit in enumerate(row))
                                 for i, row in enumerate(cloth))
                self.assertEqual(told, expected)

    def test_16_of_them_and_somewhat_beyond(self):
        for size in (16, 17):
            colours = [k % 3 for k in range(size)]
            self.assertEqual(shown_by(((1,) * size,) * size, colours, [0] * size), (tuple(colours),) * size)
            self.assertEqual(shown_by(((0,) * size,) * size, [0] * size, colours),
                             tuple((colour,) * size for colour in colours))


class ClothForTest(RefusalCase):
    def test_a_0_where_both_threads_have_the_colour(self):
        for colour in (0, 1, 2):
            self.assertEqual(cloth_for(((colour,),), [colour], [colour]), ((0,),))
        self.assertEqual(cloth_for(((0, 1), (0, 0)), [0, 1], [0, 0]), ((0, 1), (0, 0)))

    def test_the_thread_that_has_the_colour(self):
        self.assertEqual(cloth_for(((2,),), [2], [0]), ((1,),))
        self.assertEqual(cloth_for(((2,),), [0], [2]), ((0,),))
        self.assertEqual(cloth_for(((0, 1, 1), (0, 1, 2)), [0, 1, 2], [1, 0]), ((1, 0, 0), (0, 1, 1)))

    def test_none_where_neither_thread_has_the_colour(self):
        self.assertIsNone(cloth_for(((2,),), [0], [1]))
        self.assertIsNone(cloth_for(((0, 0), (0, 1)), [0, 0], [0, 0]))
        self.assertIsNone(cloth_for(((1, 0), (0, 0)), [0, 0], [0, 0]))

    def test_all_small_pictures_and_colours(self):
        for height, width in ((1, 1), (1, 2), (2, 1), (2, 2)):
            for picture in all_pictures(height, width):
                for warps, wefts in all_colours(width, height):
                    self.assert_best(picture, warps, wefts)

    def assert_best(self, picture, warps, wefts):
        bits = [[[bit for bit in (0, 1) if (wefts[i], warps[j])[bit] == colour] for j, colour in enumerate(row)]
                for i, row in enumerate(picture)]
        told = cloth_for(picture, warps, wefts)
        if any(fitting == [] for row in bits for fitting in row):
            self.assertIsNone(told)
        else:
            self.assertEqual(told, tuple(tuple(fitting[0] for fitting in row) for row in bits))
            self.assertEqual(checked(told), told)
            self.assertEqual(shown_by(told, warps, wefts), picture)

    def test_16_of_them_and_somewhat_beyond(self):
        for size in (16, 17):
            cloth = patterned_cloth(3, size, size)
            warps, wefts = [0, 1] * 8 + [0] * (size - 16), [2] * size
            self.assertEqual(cloth_for(shown_by(cloth, warps, wefts), warps, wefts), cloth)

    def test_a_cloth_comes_back_where_warps_and_wefts_have_unlike_colours(self):
        for cloth in all_cloths(3, 3):
            warps, wefts = [1, 0, 1][:len(cloth[0])], [2] * len(cloth)
            self.assertEqual(cloth_for(shown_by(cloth, warps, wefts), warps, wefts), cloth)


class ColoursForTest(unittest.TestCase):
    def assert_colours_or_knot(self, picture):
        told = colours_for(picture)
        self.assertIsInstance(told, tuple)
        if told[0] == "colours":
            self.assert_colours(picture, told)
        else:
            self.assert_knot(picture, told)
        return told[0]

    def assert_colours(self, picture, told):
        name, warps, wefts = told
        self.assertEqual((name, type(warps), type(wefts)), ("colours", list, list))
        self.assertEqual((len(warps), len(wefts)), (len(picture[0]), len(picture)))
        for colour in warps + wefts:
            self.assertIs(type(colour), int)
            self.assertIn(colour, (0, 1, 2))
        for i, row in enumerate(picture):
            for j, colour in enumerate(row):
                self.assertIn(colour, (warps[j], wefts[i]))

    def assert_knot(self, picture, told):
        name, knot = told
        self.assertEqual((name, type(knot), len(knot)), ("knot", list, 3))
        thread = knot[0][0][0][0]
        for colour, pair in enumerate(knot):
            self.assertEqual((type(pair), len(pair)), (tuple, 2))
            for way in pair:
                self.assertIs(type(way), list)
                self.assertEqual(way[0], (thread, colour))
                for step in way:
                    self.assert_step(picture, step)
                for step, after in zip(way, way[1:]):
                    there = colour_at_crossing(picture, step[0], after[0])
                    self.assertIsNotNone(there)
                    self.assertNotEqual(step[1], there)
                    self.assertEqual(after[1], there)
            self.assertEqual(pair[0][-1][0], pair[1][-1][0])
            self.assertNotEqual(pair[0][-1][1], pair[1][-1][1])
        lists = [id(way) for pair in knot for way in pair]
        self.assertEqual(len(set(lists)), 6)

    def assert_step(self, picture, step):
        self.assertEqual((type(step), len(step)), (tuple, 2))
        (kind, number), colour = step
        self.assertIs(type(step[0]), tuple)
        self.assertIn(number, range(len(picture[0]) if kind == "warp" else len(picture)))
        self.assertIn(kind, ("warp", "weft"))
        self.assertIn(colour, (0, 1, 2))
        self.assertIs(type(number), int)
        self.assertIs(type(colour), int)

    def test_one_crossing_and_one_weft_and_one_warp(self):
        for colour in (0, 1, 2):
            self.assertEqual(self.assert_colours_or_knot(((colour,),)), "colours")
        for row in product((0, 1, 2), repeat=4):
            self.assertEqual(self.assert_colours_or_knot((row,)), "colours")
            self.assertEqual(self.assert_colours_or_knot(tuple((colour,) for colour in row)), "colours")

    def test_a_picture_that_has_none(self):
        self.assertEqual(self.assert_colours_or_knot(KNOTTED), "knot")
        self.assertEqual(self.assert_colours_or_knot(tuple(zip(*KNOTTED))), "knot")
        self.assertEqual(self.assert_colours_or_knot(((0, 1, 2), (1, 2, 0), (2, 0, 1))), "knot")

    def test_a_knot_of_two_colours_alone(self):
        found = [picture for picture in product(product((0, 1), repeat=4), repeat=4)
                 if self.assert_colours_or_knot(picture) == "knot"]
        # Two colours: warps with one and wefts with the other show every picture.
        self.assertEqual(found, [])

    def test_just_the_pictures_that_some_cloth_shows_have_colours(self):
        for height, width in ((1, 1), (1, 3), (3, 1), (2, 2), (2, 3), (3, 2)):
            with_colours = {shown_by(cloth, warps, wefts) for warps, wefts in all_colours(width, height)
                            for cloth in product(product((0, 1), repeat=width), repeat=height)}
            for picture in all_pictures(height, width):
                expected = "colours" if picture in with_colours else "knot"
                self.assertEqual(self.assert_colours_or_knot(picture), expected)

    def test_colours_or_a_knot_for_pictures_of_3_wefts_and_3_warps(self):
        kinds = {self.assert_colours_or_knot(picture) for picture in list(all_pictures(3, 3))[::3]}
        self.assertEqual(kinds, {"colours", "knot"})

    def test_cloth_for_takes_the_colours(self):
        for picture in all_pictures(2, 3):
            told = colours_for(picture)
            if told[0] == "colours":
                cloth = cloth_for(picture, told[1], told[2])
                self.assertEqual(shown_by(cloth, told[1], told[2]), picture)

    def test_greater_pictures_that_a_cloth_shows(self):
        for seed in range(60):
            height, width = 16 - seed % 5, 16 - seed % 7
            warps = list(patterned_picture(seed, 1, width)[0])
            wefts = list(patterned_picture(seed + 100, 1, height)[0])
            picture = shown_by(patterned_cloth(seed, height, width), warps, wefts)
            self.assertEqual(self.assert_colours_or_knot(picture), "colours")

    def test_greater_pictures_that_none_shows(self):
        for seed in range(20):
            self.assertEqual(self.assert_colours_or_knot(patterned_picture(seed, 16, 16)), "knot")

    def test_a_knot_hidden_behind_threads_that_have_colours(self):
        for height, width in ((8, 9), (16, 16), (17, 18)):
            picture = [[0] * width for _ in range(height)]
            for i, row in enumerate(KNOTTED):
                picture[height - 2 + i][width - 3:] = row
            self.assertEqual(self.assert_colours_or_knot(tuple(map(tuple, picture))), "knot")

    def test_pictures_of_all_sizes(self):
        kinds = {self.assert_colours_or_knot(patterned_picture(seed, height, width))
                 for seed in range(2) for height in range(1, 17) for width in range(1, 17)}
        self.assertEqual(kinds, {"colours", "knot"})

    def test_lists_and_the_lists_within_are_new_each_time(self):
        first = colours_for(KNOTTED)
        for pair in first[1]:
            for way in pair:
                way.clear()
        first[1].clear()
        self.assertEqual(self.assert_colours_or_knot(KNOTTED), "knot")
        first = colours_for(((0, 0), (0, 0)))
        first[1].clear()
        first[2].clear()
        self.assertEqual(self.assert_colours_or_knot(((0, 0), (0, 0))), "colours")


if __name__ == "__main__":
    unittest.main()
