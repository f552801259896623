"""Fonts, the width of rows of signs, and their bands [1, 2, 15]."""

import copy
import unittest

from glowboard.errors import GlowError, NoFont, NoSign
from glowboard.fonts import Font
from glowboard.pictures import filled, is_picture, pictured

from helper import (
    FAR, MOST, bits_of, deep, most_held, no_numbers, pairs_of, patterned, rows_cut, sign_rows, text_rows)

SIGNS = [chr(number) for number in range(32, 127) if number != 37]
FEW = sign_rows("ab c~")
GAPS = (0, 1, 2, 8)
TEXTS = ("", "a", "b", " ", "~", "ab", "aa", "a b", " a ", "   ", "abc ~cba", "~~", "c" * 30, "ab c~" * 40)
DOT = filled(1, 1, 3)


class MadeTest(unittest.TestCase):

    def assert_refused(self, pairs, gap=1):
        before = copy.deepcopy((pairs, gap))
        with self.assertRaises(NoFont) as caught:
            Font(pairs, gap)
        self.assertIs(NoFont, type(caught.exception))
        self.assertIsInstance(caught.exception, GlowError)
        self.assertEqual(before, (pairs, gap))

    def test_one_pair(self):
        for sign in SIGNS:
            font = Font([(sign, DOT)])
            self.assertEqual((1, 1, DOT), (font.height(), font.width(sign), font.band(sign, 0, 1)))

    def test_sixty_pairs(self):
        for some in (SIGNS[:60], SIGNS[-60:], SIGNS[33:93]):
            rows = sign_rows(some, 2)
            font = Font(pairs_of(rows), 3)
            for sign in some:
                self.assertEqual(bits_of(rows[sign]), font.band(sign, 0, len(rows[sign][0])))
            wanted = sum(len(rows[sign][0]) for sign in some) + 3 * 59
            self.assertEqual(wanted, font.width("".join(some)))

    def test_height(self):
        for high in (1, 2, 7, 64):
            self.assertEqual(high, Font([("a", filled(1, high)), ("b", filled(64, high, 0))]).height())

    def test_pictures_of_holes_and_of_great_sides(self):
        font = Font([("a", filled(64, 64)), ("b", filled(64, 64, 15))], 8)
        self.assertEqual(64 * 200 + 8 * 199, font.width("ab" * 100))

    def test_no_list(self):
        pairs = [("a", DOT), ("b", DOT)]
        for thing in no_numbers() + [0, 1, -1, MOST, tuple(pairs), dict(pairs), "ab", ("a", DOT), DOT]:
            self.assert_refused(thing)

    def test_how_many_pairs(self):
        self.assert_refused([])
        self.assert_refused([(sign, DOT) for sign in SIGNS[:61]])
        self.assert_refused([(sign, DOT) for sign in SIGNS])

    def test_no_tuple_of_two(self):
        things = [["a", DOT], ("a",), ("a", DOT, DOT), ("a", DOT, None), (), "ab", "a", DOT]
        things += [{"a": DOT}, {0: "a", 1: DOT}, (DOT, "a"), (("a", DOT),)]
        for thing in things + no_numbers() + [0, 5]:
            self.assert_refused([thing])
            self.assert_refused([("x", DOT), thing])
            self.assert_refused([thing, ("x", DOT)])

    def test_no_sign(self):
        things = [thing for thing in no_numbers() if thing not in (" ", "0", "1")]
        for thing in things + [0, 7, "ab", "  ", "a ", "a" * 200, ("a",), ["a"], "%", "%%"]:
            self.assert_refused([(thing, DOT)])
            self.assert_refused([("x", DOT), (thing, DOT)])

    def test_signs_that_are_not_of_those_told(self):
        for sign in ("\n", "\t", "\0", "\x1f", "\x7f", "\x80", "\xa0", "\xe9", "\u20ac", "\U0001f600"):
            self.assert_refused([(sign, DOT)])
            self.assert_refused([("a", DOT), (sign, DOT)])

    def test_a_sign_twice(self):
        self.assert_refused([("a", DOT), ("a", DOT)])
        self.assert_refused([("a", DOT), ("b", DOT), ("a", filled(2, 1, 4))])
        self.assert_refused([(" ", DOT), (" ", filled(1, 1))])
        self.assert_refused([(sign, DOT) for sign in SIGNS[:59] + [SIGNS[0]]])
        Font([("a", DOT), ("A", DOT)])

    def test_no_picture(self):
        wrong = [[1, 1, (3,), (1,)], (1, 1, (16,), (1,)), (1, 1, (3,), (0,)), (1, 1, (3,), (2,)), (1, 1, (3,)),
                 (0, 1, (0,), (0,)), (65, 1, (0,), (0,)), (1, 2, (3,), (1,)), (1, 1, [3], [1]), (True, 1, (0,), (0,)),
                 [[3]], "3", 3]
        for thing in wrong + no_numbers() + [deep(8), 10 ** 120 - 1]:
            self.assert_refused([("a", thing)])
            self.assert_refused([("b", DOT), ("a", thing)])

    def test_unlike_heights(self):
        self.assert_refused([("a", filled(1, 1)), ("b", filled(1, 2))])
        self.assert_refused([("a", filled(1, 2)), ("b", filled(1, 1))])
        self.assert_refused([("a", filled(2, 3)), ("b", filled(3, 3)), ("c", filled(3, 2))])
        self.assert_refused([(sign, filled(1, 64)) for sign in SIGNS[:59]] + [("~", filled(1, 63))])

    def test_gap(self):
        for gap in range(9):
            self.assertEqual(2 + gap, Font([("a", DOT)], gap).width("aa"))
        self.assertEqual(3, Font([("a", DOT)]).width("aa"))
        for thing in no_numbers() + [-1, 9, -MOST, MOST, 64]:
            self.assert_refused([("a", DOT)], thing)

    def test_what_is_handed_in_is_kept_as_a_copy(self):
        pairs = pairs_of(FEW)
        before = copy.deepcopy(pairs)
        font = Font(pairs, 2)
        wanted = font.band("ab c~", 0, 30)
        self.assertEqual(before, pairs)
        pairs[0] = ("a", filled(9, 9, 9))
        pairs.append(("z", DOT))
        pairs.pop(1)
        self.assertEqual(wanted, font.band("ab c~", 0, 30))
        pairs.clear()
        self.assertEqual((3, wanted), (font.height(), font.band("ab c~", 0, 30)))
        with self.assertRaises(NoSign):
            font.width("z")


class WidthTest(unittest.TestCase):

    def test_the_text_without_signs(self):
        for gap in GAPS:
            self.assertEqual(0, Font(pairs_of(FEW), gap).width(""))

    def test_written_out(self):
        font = Font([("i", filled(1, 5, 1)), ("m", filled(5, 5, 1)), (" ", filled(2, 5))])
        texts = ("i", "m", " ", "im", "ii", "mm", "i m")
        self.assertEqual([1, 5, 2, 7, 3, 11, 10], [font.width(text) for text in texts])

    def test_many(self):
        for gap in GAPS:
            font = Font(pairs_of(FEW), gap)
            for text in TEXTS:
                self.assertEqual(len(text_rows(FEW, gap, text)[0]), font.width(text), text)

    def test_great(self):
        self.assertEqual(64 * 200 + 8 * 199, Font([("a", filled(64, 1, 1))], 8).width("a" * 200))
        self.assertEqual(200, Font([("a", DOT)], 0).width("a" * 200))


class NoSignTest(unittest.TestCase):

    CASES = (
        ("x", "x", 0), ("ax", "x", 1), ("xa", "x", 0), ("abxyx", "x", 2), ("yx", "y", 0), ("a" * 199 + "z", "z", 199),
        ("A", "A", 0), ("a\n", "\n", 1), ("~ -", "-", 2), ("%", "%", 0))

    def test_width(self):
        for gap in GAPS:
            font = Font(pairs_of(FEW), gap)
            for text, sign, at in self.CASES:
                with self.assertRaises(NoSign) as caught:
                    font.width(text)
                self.assertEqual((sign, at), (caught.exception.sign, caught.exception.at))

    def test_a_blank_without_picture(self):
        font = Font([("a", DOT)])
        with self.assertRaises(NoSign) as caught:
            font.width("aa a")
        self.assertEqual((" ", 2), (caught.exception.sign, caught.exception.at))

    def test_band_wherever_it_lies(self):
        font = Font(pairs_of(FEW), 1)
        for text, sign, at in self.CASES:
            for x in (-FAR, -70, -64, -1, 0, 1, 5, 900, FAR):
                for wide in (1, 64):
                    with self.assertRaises(NoSign) as caught:
                        font.band(text, x, wide)
                    self.assertEqual((sign, at), (caught.exception.sign, caught.exception.at))

    def test_what_is_refused_changes_nothing(self):
        font = Font(pairs_of(FEW), 1)
        before = font.band("abc", 0, 12)
        with self.assertRaises(NoSign):
            font.band("abcx", 0, 12)
        self.assertEqual(before, font.band("abc", 0, 12))


class BandTest(unittest.TestCase):

    def assert_band(self, rows, gap, text, x, wide):
        told = Font(pairs_of(rows), gap).band(text, x, wide)
        high = len(next(iter(rows.values())))
        self.assertEqual(bits_of(rows_cut(text_rows(rows, gap, text), x, 0, wide, high)), told, (text, x, wide))
        self.assertIs(True, is_picture(told))

    def test_written_out(self):
        font = Font([("i", pictured([[1], [2]])), ("m", pictured([[3, None, 4], [5, 0, 6]]))])
        self.assertEqual(pictured([[1, None, 3, None, 4, None], [2, None, 5, 0, 6, None]]), font.band("im", 0, 6))
        self.assertEqual(pictured([[3, None], [5, 0]]), font.band("im", 2, 2))
        self.assertEqual(pictured([[None], [None]]), font.band("im", 1, 1))
        self.assertEqual(pictured([[None, 1, None], [None, 2, None]]), font.band("im", -1, 3))
        self.assertEqual(pictured([[4, None], [6, None]]), font.band("im", 4, 2))
        self.assertEqual(pictured([[None], [None]]), font.band("im", 5, 1))

    def test_the_text_without_signs(self):
        for gap in GAPS:
            font = Font(pairs_of(FEW), gap)
            for x in (-FAR, -64, -3, 0, 1, FAR):
                self.assertEqual(filled(9, 3), font.band("", x, 9))

    def test_ahead_of_the_row_in_it_in_gaps_and_behind_it(self):
        for gap in GAPS:
            for text in ("a", "ab", "b a", "~c", "abc"):
                width = len(text_rows(FEW, gap, text)[0])
                for wide in (1, 2, 5, width, width + 3):
                    for x in range(-wide - 2, width + 3):
                        self.assert_band(FEW, gap, text, x, wide)

    def test_long_rows(self):
        for gap in (0, 1, 8):
            for text in ("ab c~" * 40, "b" * 200):
                width = len(text_rows(FEW, gap, text)[0])
                for x in (-64, -63, 0, 1, 63, 64, width // 2, width - 64, width - 1, width, width + 1):
                    self.assert_band(FEW, gap, text, x, 64)

    def test_great_pictures(self):
        rows = {"a": patterned(64, 64), "b": patterned(64, 64, 7), "c": patterned(1, 64, 3)}
        for x in (-64, -63, -1, 0, 1, 63, 64, 71, 72, 73, 136, 143, 144, 145, 208, 209):
            self.assert_band(rows, 8, "abc", x, 64)
            self.assert_band(rows, 0, "cba", x, 1)

    def test_sides_of_the_band(self):
        for high in (1, 3, 64):
            font = Font(pairs_of(sign_rows("ab", high)))
            for wide in (1, 2, 63, 64):
                for x in (-FAR, 0, 3, FAR):
                    self.assertEqual((wide, high), font.band("ab", x, wide)[:2])

    def test_nothing_is_refused_for_sides_somewhat_beyond(self):
        font = Font(pairs_of(FEW))
        for x in (-FAR, -3, 0, 3, FAR):
            font.band("ab" * 101, x, 70)

    def test_far_off(self):
        for gap in GAPS:
            font = Font([("a", filled(64, 2, 15)), ("b", filled(1, 2, 4))], gap)
            for text in ("", "a", "ab", "a" * 200):
                for x in (-FAR, 1 - FAR, -(2 ** 29), -65, -64, 64 * 200 + 8 * 199, 2 ** 29, FAR - 1, FAR):
                    self.assertEqual(filled(64, 2), font.band(text, x, 64))

    def test_far_off_no_row_of_bits_as_long_as_a_place(self):
        font = Font([("a", filled(64, 2, 15))], 8)
        for x in (-FAR, FAR):
            self.assertLess(most_held(lambda: font.band("a" * 200, x, 64)), 200000)

    def test_gap_left_out(self):
        font, other = Font(pairs_of(FEW)), Font(pairs_of(FEW), 1)
        for text in TEXTS:
            self.assertEqual(other.width(text), font.width(text))
            self.assertEqual(other.band(text, 2, 20), font.band(text, 2, 20))

    def test_fonts_are_apart_from_one_another(self):
        one, other = Font([("a", DOT)], 0), Font([("a", filled(2, 2, 4))], 5)
        self.assertEqual((1, 2, 2, 9), (one.height(), one.width("aa"), other.height(), other.width("aa")))


if __name__ == "__main__":
    unittest.main()
