import unittest

from refusals import RefusalCase
from things import all_cloths, patterned_cloth, things_of_any_kind
from weavehall.cloths import checked
from weavehall.errors import BadText
from weavehall.texts import read, shown

WIDE = ((1, 0, 0), (0, 1, 1))


class ShownTest(unittest.TestCase):
    def test_a_sign_for_each_crossing_and_a_line_end_for_each_weft(self):
        self.assertEqual(shown(WIDE), "#--\n-##\n")

    def test_one_weft_and_one_warp(self):
        self.assertEqual(shown(((1,),)), "#\n")
        self.assertEqual(shown(((0,),)), "-\n")
        self.assertEqual(shown(((1, 0, 1),)), "#-#\n")
        self.assertEqual(shown(((1,), (0,))), "#\n-\n")

    def test_16_of_them_and_somewhat_beyond(self):
        self.assertEqual(shown(((1,) * 16,) * 16), ("#" * 16 + "\n") * 16)
        self.assertEqual(shown(((0,) * 17,) * 18), ("-" * 17 + "\n") * 18)


class ReadTest(RefusalCase):
    def test_lines_are_read(self):
        self.assertEqual(read("#--\n-##\n"), WIDE)
        self.assertEqual(read("#\n"), ((1,),))
        self.assertEqual(read("-\n"), ((0,),))

    def test_what_is_written_is_read_to_the_same_cloth(self):
        cloths = all_cloths(3, 3) + [patterned_cloth(seed, height, width) for seed in range(3)
                                     for height in (1, 2, 15, 16) for width in (1, 2, 15, 16)]
        for cloth in cloths:
            self.assertEqual(read(shown(cloth)), cloth)
            self.assertEqual(checked(read(shown(cloth))), cloth)

    def test_a_line_without_its_end(self):
        for text in ("#", "-", "#-\n-#", "#-\n#-\n#", "\n#"):
            with self.subTest(text=text):
                self.assert_refused(BadText, read, text)

    def test_an_empty_text_and_empty_lines(self):
        for text in ("", "\n", "\n\n", "#-\n\n", "\n#-\n", "#-\n\n#-\n", "\n" * 16, "\n" * 17):
            with self.subTest(text=text):
                self.assert_refused(BadText, read, text)

    def test_lines_of_unlike_lengths(self):
        for text in ("#-\n#\n", "#\n#-\n", "#-\n#-\n#\n", "#\n##\n#\n", "#" * 16 + "\n" + "#" * 15 + "\n"):
            with self.subTest(text=text):
                self.assert_refused(BadText, read, text)

    def test_another_sign(self):
        for sign in ("0", "1", "2", "x", " ", "\t", "_", "+", "=", "\r", "\v", "\f", "\x00", "\x1c", "\x1d", "\x1e",
                     "\x85", "\u2028", "\u2029", "\u2010", "\u2212", "\uff03", "\ufeff", "\ud800", "\U0001f9f6", "##x",
                     "-#-x", "\r\n"):
            for text in (f"{sign}\n", f"#{sign}\n", f"{sign}#\n", f"##\n-{sign}\n", f"#{sign}-\n", f"##\n{sign}-\n",
                         f"#-{sign}"):
                with self.subTest(text=text):
                    self.assert_refused(BadText, read, text)
        for text in ("#-\r\n-#\r\n", "#-\r-#\r", "#-\u2028-#\u2028", "#-\x0b-#\n", " #-\n", "#-\n "):
            with self.subTest(text=text):
                self.assert_refused(BadText, read, text)

    def test_16_and_17_lines_and_signs(self):
        self.assertEqual(read("#\n" * 16), ((1,),) * 16)
        self.assertEqual(read("-" * 16 + "\n"), ((0,) * 16,))
        self.assertEqual(read(("#" * 16 + "\n") * 16), ((1,) * 16,) * 16)
        for height, width in ((17, 1), (1, 17), (17, 16), (16, 17), (17, 17), (100, 1), (1, 100000)):
            with self.subTest(height=height, width=width):
                self.assert_refused(BadText, read, ("#" * width + "\n") * height)

    def test_things_of_any_kind(self):
        for thing in things_of_any_kind() + [0, 1, WIDE, list(WIDE), b"#-\n", bytearray(b"#-\n"), ["#-\n"], ("#-\n",)]:
            if not (isinstance(thing, str) and thing == "#-\n"):
                self.assert_refused(BadText, read, thing)


if __name__ == "__main__":
    unittest.main()
