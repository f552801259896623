"""Texts broken into rows of signs, and views of pages [1, 2, 16, 17]."""

import copy
import unittest

from glowboard.errors import NoSign, TooWide
from glowboard.fonts import Font
from glowboard.pages import broken, view
from glowboard.pictures import filled, is_picture, pictured

from helper import FAR, bits_of, most_held, page_rows, pairs_of, patterned, rows_cut, sign_rows, text_rows

FEW = sign_rows("ab c~")
EVEN = Font([(sign, filled(1, 1, 2)) for sign in "abcdefghij "], 0)
TEXTS = ("a", "ab", "a b", "ab ba", "a b c a b c", "abc ~ bbbb a a a a a a ~~~", "a " * 99 + "b", "abcab " * 30 + "c",
         "~", "a b", "c c c c", "bb aaa bb a bb aaaa")


def rows_broken(width, text, wide):
    """The rows, by trying for each how many of the next words go into it; width is a function of a text."""
    words, rows = text.split(" "), []
    while words:
        goes = [many for many in range(1, len(words) + 1) if width(" ".join(words[:many])) <= wide]
        rows.append(" ".join(words[:max(goes)]))
        words = words[max(goes):]
    return rows


class BrokenTest(unittest.TestCase):

    def test_no_words(self):
        for wide in (1, 2, 64, FAR):
            told = broken(EVEN, "", wide)
            self.assertEqual([], told)
            self.assertIs(list, type(told))
            self.assertEqual([], broken(Font([("x", filled(64, 1))]), "", wide))

    def test_one_word(self):
        for wide in (3, 4, 100, FAR):
            self.assertEqual(["abc"], broken(EVEN, "abc", wide))

    def test_written_out(self):
        self.assertEqual(["ab cd", "ef"], broken(EVEN, "ab cd ef", 5))
        self.assertEqual(["ab", "cd", "ef"], broken(EVEN, "ab cd ef", 4))
        self.assertEqual(["ab cd ef"], broken(EVEN, "ab cd ef", 8))
        self.assertEqual(["ab cd", "ef"], broken(EVEN, "ab cd ef", 7))
        self.assertEqual(["abc", "d e", "fgh"], broken(EVEN, "abc d e fgh", 3))
        self.assertEqual(["a b", "c d", "e"], broken(EVEN, "a b c d e", 3))
        self.assertEqual(["a", "b", "c", "d", "e"], broken(EVEN, "a b c d e", 2))

    def test_gaps_count(self):
        pairs = [("a", filled(2, 1, 1)), (" ", filled(3, 1))]
        # Two words of one sign are 2 + 3 + 2 columns wide, and have two gaps.
        for gap in (0, 1, 8):
            font = Font(pairs, gap)
            self.assertEqual(["a a"], broken(font, "a a", 7 + 2 * gap))
            self.assertEqual(["a", "a"], broken(font, "a a", 6 + 2 * gap))
            self.assertEqual(["aa"], broken(font, "aa", 4 + gap))
            with self.assertRaises(TooWide):
                broken(font, "aa", 3 + gap)

    def test_where_rows_fill_the_width_exactly_and_where_one_column_lacks(self):
        for gap in (0, 1, 8):
            font = Font(pairs_of(FEW), gap)
            for text in ("ab c", "a b c ~ a b", "cc b ~a"):
                whole = len(text_rows(FEW, gap, text)[0])
                self.assertEqual([text], broken(font, text, whole))
                self.assertEqual([text], broken(font, text, whole + 1))
                self.assertEqual(2, len(broken(font, text, whole - 1)))
                self.assertEqual(text.rsplit(" ", 1), broken(font, text, whole - 1))

    def test_many(self):
        for gap in (0, 1, 3):
            font = Font(pairs_of(FEW), gap)
            for text in TEXTS:
                def width(some):
                    return sum(len(FEW[sign][0]) for sign in some) + gap * (len(some) - 1)
                least = max(width(word) for word in text.split(" "))
                for wide in list(range(least, least + 40, 3)) + [width(text), FAR]:
                    told = broken(font, text, wide)
                    self.assertEqual(rows_broken(width, text, wide), told, (text, wide))
                    self.assertEqual(text, " ".join(told))

    def test_a_word_as_wide_as_the_width(self):
        self.assertEqual(["abcd", "efgh"], broken(EVEN, "abcd efgh", 4))
        self.assertEqual(["a", "bcde", "f"], broken(EVEN, "a bcde f", 4))
        self.assertEqual(["a"], broken(EVEN, "a", 1))

    def assert_too_wide(self, font, text, wide, word):
        with self.assertRaises(TooWide) as caught:
            broken(font, text, wide)
        self.assertEqual(word, caught.exception.word)

    def test_a_word_that_is_wider(self):
        self.assert_too_wide(EVEN, "abcd", 3, 0)
        self.assert_too_wide(EVEN, "ab", 1, 0)
        self.assert_too_wide(EVEN, "a bcde f", 3, 1)
        self.assert_too_wide(EVEN, "a b c d efghi abcdef", 4, 4)
        self.assert_too_wide(EVEN, "abcdef efghi a", 5, 0)
        self.assert_too_wide(EVEN, "a " * 99 + "bb", 1, 99)
        self.assert_too_wide(Font([("a", filled(64, 1)), ("b", filled(2, 1)), (" ", filled(1, 1))]), "b b a", 63, 2)

    def assert_no_sign(self, font, text, wide, sign, at):
        with self.assertRaises(NoSign) as caught:
            broken(font, text, wide)
        self.assertEqual((sign, at), (caught.exception.sign, caught.exception.at))

    def test_a_sign_without_picture(self):
        self.assert_no_sign(EVEN, "x", 9, "x", 0)
        self.assert_no_sign(EVEN, "a bx y", 9, "x", 3)
        self.assert_no_sign(EVEN, "a b y x", 9, "y", 4)

    def test_a_sign_without_picture_ahead_of_a_word_that_is_too_wide(self):
        self.assert_no_sign(EVEN, "abcdef x", 3, "x", 7)
        self.assert_no_sign(EVEN, "abcdefx", 3, "x", 6)
        self.assert_no_sign(EVEN, "x abcdef", 3, "x", 0)
        self.assert_no_sign(EVEN, "a abcdef b c d y x", 1, "y", 15)

    def test_a_blank_without_picture(self):
        font = Font([(sign, filled(1, 1, 2)) for sign in "abc"], 0)
        self.assertEqual(["abc"], broken(font, "abc", 3))
        self.assert_no_sign(font, "ab c", 9, " ", 2)
        self.assert_no_sign(font, "ab c", 2, " ", 2)
        self.assert_no_sign(font, "abcabc a", 2, " ", 6)
        self.assert_no_sign(font, "a bx", 2, " ", 1)
        self.assert_no_sign(font, "ax b", 2, "x", 1)
        self.assert_too_wide(font, "abcabc", 2, 0)

    def test_each_list_told_is_a_new_one(self):
        for text in ("", "ab cd ef"):
            wanted = broken(EVEN, text, 5)
            told = broken(EVEN, text, 5)
            told.append("more")
            self.assertEqual(wanted, broken(EVEN, text, 5))


class ViewTest(unittest.TestCase):

    def assert_view(self, rows, gap, lines, lead, x, y, wide, high):
        told = view(Font(pairs_of(rows), gap), lines, lead, x, y, wide, high)
        wanted = rows_cut(page_rows(rows, gap, lines, lead), x, y, wide, high)
        self.assertEqual(bits_of(wanted), told, (lines, lead, x, y, wide, high))
        self.assertIs(True, is_picture(told))

    def test_written_out(self):
        font = Font([("i", pictured([[1], [2]])), ("m", pictured([[3, None], [0, 6]]))])
        hole = None
        self.assertEqual(
            pictured([[1, hole, 3, hole], [2, hole, 0, 6], [hole] * 4, [3, hole, hole, hole], [0, 6, hole, hole]]),
            view(font, ["im", "m"], 1, 0, 0, 4, 5))
        self.assertEqual(pictured([[3, hole], [0, 6], [hole, hole]]), view(font, ["im", "m"], 1, 2, 0, 2, 3))
        self.assertEqual(pictured([[0, 6], [3, hole]]), view(font, ["m", "m"], 0, 0, 1, 2, 2))
        self.assertEqual(pictured([[hole, hole], [hole, 1]]), view(font, ["im", "m"], 1, -1, -1, 2, 2))

    def test_no_lines(self):
        font = Font(pairs_of(FEW))
        for lead in (0, 1, 8):
            for x, y in ((0, 0), (-5, -5), (3, 3), (FAR, FAR), (-FAR, -FAR)):
                for wide, high in ((1, 1), (7, 9), (64, 64)):
                    self.assertEqual(filled(wide, high), view(font, [], lead, x, y, wide, high))

    def test_lines_without_signs(self):
        for lead in (0, 1, 8):
            for lines in ([""], ["", ""], ["", "ab"], ["ab", "", "c"], ["ab", ""], ["", "", "~", ""]):
                for y in (-3, 0, 2, 5):
                    self.assert_view(FEW, 1, lines, lead, 0, y, 12, 20)

    def test_on_the_page_across_its_sides_between_lines_and_off_it(self):
        lines = ["ab~", "c", "b a"]
        for lead in (0, 1, 3, 8):
            rows = page_rows(FEW, 1, lines, lead)
            wide, high = max(len(row) for row in rows), len(rows)
            for x in (-9, -6, -5, -1, 0, 1, 4, wide - 5, wide - 1, wide, wide + 1):
                for y in range(-6, high + 2):
                    self.assert_view(FEW, 1, lines, lead, x, y, 5, 4)
                    self.assert_view(FEW, 1, lines, lead, x, y, 1, 1)
            self.assert_view(FEW, 1, lines, lead, 0, 0, wide, high)
            self.assert_view(FEW, 1, lines, lead, -1, -1, wide + 2, high + 2)

    def test_between_two_lines(self):
        font = Font([("a", filled(9, 3, 5))])
        for lead in range(1, 9):
            self.assertEqual(filled(9, lead), view(font, ["a", "a"], lead, 0, 3, 9, lead))
            self.assertNotEqual(filled(9, lead + 1), view(font, ["a", "a"], lead, 0, 3, 9, lead + 1))
            self.assertNotEqual(filled(9, lead), view(font, ["a", "a"], lead, 0, 2, 9, lead))

    def test_gaps_and_fonts(self):
        for high in (1, 2, 5):
            rows = sign_rows("ab c~", high)
            for gap in (0, 2, 8):
                for lead in (0, 8):
                    for x, y in ((0, 0), (3, 1), (-2, high), (5, high + lead), (1, high + lead - 1)):
                        self.assert_view(rows, gap, ["a~ c", "bb", "", "cab"], lead, x, y, 11, 13)

    def test_great(self):
        rows = {"a": patterned(64, 64), "b": patterned(64, 64, 7)}
        for x, y in ((0, 0), (-63, -63), (64, 64), (70, 71), (63, 63), (72, 72), (135, 135), (136, 136)):
            self.assert_view(rows, 8, ["ab", "ba"], 8, x, y, 64, 64)
        lines = ["ab c~"[at % 5:] * (1 + at % 9) for at in range(60)]
        for x, y in ((0, 0), (20, 100), (3, 59 * 3), (3, 60 * 3 - 1), (0, 60 * 3), (30, -60)):
            self.assert_view(FEW, 1, lines, 0, x, y, 64, 64)

    def test_far_off(self):
        font = Font([("a", filled(64, 64, 15))], 8)
        for lines in (["a" * 200] * 60, ["", "a"], ["a"]):
            for lead in (0, 8):
                for x, y in ((FAR, 0), (-FAR, 0), (0, FAR), (0, -FAR), (FAR, FAR), (-FAR, -FAR), (1 - FAR, FAR - 1)):
                    self.assertEqual(filled(64, 3), view(font, lines, lead, x, y, 64, 3))

    def test_far_off_no_row_of_bits_as_long_as_a_place(self):
        font = Font([("a", filled(64, 2, 15))], 8)
        for x, y in ((FAR, 0), (-FAR, 0), (0, FAR), (0, -FAR)):
            self.assertLess(most_held(lambda: view(font, ["a" * 200] * 3, 1, x, y, 64, 64)), 300000)

    def assert_no_sign(self, lines, sign, at):
        font = Font(pairs_of(FEW))
        for x, y in ((0, 0), (0, 4), (100, 0), (0, 900), (FAR, FAR), (-FAR, -FAR)):
            for wide, high in ((1, 1), (20, 20)):
                with self.assertRaises(NoSign) as caught:
                    view(font, lines, 1, x, y, wide, high)
                self.assertEqual((sign, at), (caught.exception.sign, caught.exception.at))

    def test_no_sign(self):
        self.assert_no_sign(["x"], "x", 0)
        self.assert_no_sign(["ab", "abx"], "x", 2)
        self.assert_no_sign(["ab", "c" * 50 + "z", "y"], "z", 50)
        self.assert_no_sign(["ab", "ay", "x"], "y", 1)
        self.assert_no_sign(["a"] * 59 + ["a%x"], "%", 1)
        self.assert_no_sign(["", "", " Q"], "Q", 1)

    def test_nothing_is_refused_for_what_lies_somewhat_beyond(self):
        view(Font(pairs_of(FEW)), ["a" * 201] * 61, 9, 0, 0, 65, 66)

    def test_the_lines_are_left_as_they_were(self):
        lines = ["ab", "c"]
        view(Font(pairs_of(FEW)), lines, 1, 0, 0, 9, 9)
        self.assertEqual(["ab", "c"], lines)
        wrong = ["ab", "x", "c"]
        before = copy.deepcopy(wrong)
        with self.assertRaises(NoSign):
            view(Font(pairs_of(FEW)), wrong, 1, 0, 0, 9, 9)
        self.assertEqual(before, wrong)


if __name__ == "__main__":
    unittest.main()
