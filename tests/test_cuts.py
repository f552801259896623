"""Cuts, one picture laid on another, and boxes [1, 2, 9]."""

import unittest

from glowboard.cuts import box_of, cut, laid
from glowboard.pictures import filled, is_picture

from helper import FAR, SIDES, bits_of, cell_at, holes, most_held, patterned, rows_cut, some_rows

FARS = (-FAR, 1 - FAR, -(2 ** 29), -129, 129, 2 ** 29, FAR - 1, FAR)
UNITS = ((1, 1), (3, 2), (2, 5), (7, 4), (64, 1), (1, 64))
LITTLE = 200000


def rows_laid(under, over, x, y):
    """Cell by cell as the document tells it."""
    told = []
    for j, row in enumerate(under):
        uppers = [cell_at(over, i - x, j - y) for i in range(len(row))]
        told.append([lower if upper is None else upper for lower, upper in zip(row, uppers)])
    return told


def edges(side, other):
    """Places at which a stretch of one side lies beside, across and on another one, as seen from that."""
    return sorted({-side - 1, -side, 1 - side, -1, 0, 1, other - side, other - 1, other, other + 1})


class CutTest(unittest.TestCase):

    def assert_cut(self, rows, x, y, wide, high):
        told = cut(bits_of(rows), x, y, wide, high)
        self.assertEqual(bits_of(rows_cut(rows, x, y, wide, high)), told, (x, y, wide, high))
        self.assertIs(True, is_picture(told))

    def test_written_out(self):
        pic = bits_of([[1, 2, 3], [4, None, 0]])
        self.assertEqual(pic, cut(pic, 0, 0, 3, 2))
        self.assertEqual(bits_of([[2, 3], [None, 0]]), cut(pic, 1, 0, 2, 2))
        self.assertEqual(bits_of([[4, None, 0]]), cut(pic, 0, 1, 3, 1))
        self.assertEqual(bits_of([[0]]), cut(pic, 2, 1, 1, 1))
        self.assertEqual(bits_of([[3, None], [0, None], [None, None]]), cut(pic, 2, 0, 2, 3))
        self.assertEqual(bits_of([[None, None], [None, 1], [None, 4]]), cut(pic, -1, -1, 2, 3))

    def test_on_across_and_beside_each_side(self):
        for rows in some_rows(((1, 1), (3, 2), (5, 7))):
            for wide, high in UNITS:
                for x in edges(wide, len(rows[0])):
                    for y in edges(high, len(rows)):
                        self.assert_cut(rows, x, y, wide, high)

    def test_great_pictures(self):
        for wide, high in ((64, 64), (64, 1), (1, 64), (63, 17)):
            rows = patterned(wide, high, 3)
            for cut_wide, cut_high in ((64, 64), (1, 1), (64, 2), (2, 64)):
                for x in (-64, -63, -1, 0, 1, 31, 62, 63, 64):
                    for y in (-64, -63, -1, 0, 1, 63, 64):
                        self.assert_cut(rows, x, y, cut_wide, cut_high)

    def test_the_sides_of_the_cut_are_as_told(self):
        for wide, high in SIDES:
            for x, y in ((0, 0), (-1, 2), (FAR, 0), (0, FAR), (-FAR, -FAR)):
                self.assertEqual((wide, high), cut(filled(5, 7, 3), x, y, wide, high)[:2])

    def test_nothing_is_refused_for_sides_somewhat_beyond(self):
        for wide, high in ((65, 1), (1, 65), (66, 70)):
            for x, y in ((0, 0), (-1, -1), (FAR, FAR), (-FAR, -FAR)):
                cut(filled(5, 7, 3), x, y, wide, high)

    def test_far_off(self):
        for wide, high in SIDES:
            pic = filled(wide, high, 15)
            for far in FARS:
                for x, y in ((far, 0), (0, far), (far, far), (far, -far), (far, -1), (1, far)):
                    self.assertEqual(filled(64, 3), cut(pic, x, y, 64, 3))
                    self.assertEqual(filled(1, 1), cut(pic, x, y, 1, 1))

    def test_no_row_of_bits_as_long_as_a_place(self):
        pic = filled(64, 2, 15)
        for far in FARS:
            self.assertLess(most_held(lambda: cut(pic, far, 0, 64, 2)), LITTLE)
            self.assertLess(most_held(lambda: cut(pic, far, far, 64, 2)), LITTLE)
            self.assertLess(most_held(lambda: cut(pic, 0, far, 64, 2)), LITTLE)


class LaidTest(unittest.TestCase):

    def assert_laid(self, under, over, x, y):
        told = laid(bits_of(under), bits_of(over), x, y)
        self.assertEqual(bits_of(rows_laid(under, over, x, y)), told, (x, y))
        self.assertIs(True, is_picture(told))

    def test_written_out(self):
        under = bits_of([[1, 2, None], [4, None, 6]])
        over = bits_of([[None, 0], [9, None]])
        self.assertEqual(bits_of([[1, 0, None], [9, None, 6]]), laid(under, over, 0, 0))
        self.assertEqual(bits_of([[1, 2, 0], [4, 9, 6]]), laid(under, over, 1, 0))
        self.assertEqual(bits_of([[1, 2, None], [4, None, 0]]), laid(under, over, 1, 1))
        self.assertEqual(bits_of([[0, 2, None], [4, None, 6]]), laid(under, over, -1, 0))
        self.assertEqual(bits_of([[9, 2, None], [4, None, 6]]), laid(under, over, 0, -1))

    def test_holes_and_colour_nought(self):
        for lower in (None, 0, 5, 15):
            for upper in (None, 0, 5, 15, 10):
                told = lower if upper is None else upper
                self.assertEqual(bits_of([[told]]), laid(bits_of([[lower]]), bits_of([[upper]]), 0, 0))

    def test_each_colour_on_each(self):
        under = [[colour for colour in range(16)] for row in range(16)]
        over = [[row] * 16 for row in range(16)]
        self.assert_laid(under, over, 0, 0)
        self.assert_laid(over, under, 0, 0)
        self.assert_laid(under, over, 3, -5)

    def test_on_across_and_beside_each_side(self):
        for under in some_rows(((3, 2), (1, 1), (7, 5))):
            for over in (patterned(4, 3, 2), patterned(1, 1), patterned(9, 8, 4), holes(3, 3)):
                for x in edges(len(over[0]), len(under[0])):
                    for y in edges(len(over), len(under)):
                        self.assert_laid(under, over, x, y)

    def test_great_pictures(self):
        for x, y in ((0, 0), (1, 1), (-1, -1), (63, 0), (64, 0), (0, 63), (0, 64), (-63, -63), (-64, 0), (31, -32)):
            self.assert_laid(patterned(64, 64), patterned(64, 64, 9), x, y)
            self.assert_laid(patterned(64, 1), patterned(1, 64, 9), x, y)
            self.assert_laid(patterned(1, 64), patterned(64, 1, 9), x, y)

    def test_places_left_out(self):
        for rows in some_rows(((3, 2), (5, 7))):
            under, over = bits_of(rows), bits_of(patterned(4, 4, 11))
            self.assertEqual(laid(under, over, 0, 0), laid(under, over))
            for x in range(-4, 5):
                self.assertEqual(bits_of(rows_laid(rows, patterned(4, 4, 11), x, 0)), laid(under, over, x))

    def test_far_off(self):
        for rows in some_rows(((1, 1), (5, 7), (64, 1), (1, 64))):
            under = bits_of(rows)
            for far in FARS:
                for x, y in ((far, 0), (0, far), (far, far), (far, -far)):
                    self.assertEqual(under, laid(under, filled(64, 64, 15), x, y))

    def test_no_row_of_bits_as_long_as_a_place(self):
        under, over = filled(64, 2, 15), filled(64, 2, 3)
        for far in FARS:
            self.assertLess(most_held(lambda: laid(under, over, far)), LITTLE)
            self.assertLess(most_held(lambda: laid(under, over, 0, far)), LITTLE)
            self.assertLess(most_held(lambda: laid(under, over, far, far)), LITTLE)


class BoxOfTest(unittest.TestCase):

    def test_one_painted_cell(self):
        for wide, high in ((1, 1), (4, 3), (64, 1), (1, 64)):
            for y in range(high):
                for x in range(wide):
                    for colour in (0, 9):
                        rows = holes(wide, high)
                        rows[y][x] = colour
                        self.assertEqual((x, y, 1, 1), box_of(bits_of(rows)))

    def test_four_corners(self):
        for wide, high in SIDES:
            rows = holes(wide, high)
            for x, y in ((0, 0), (wide - 1, 0), (0, high - 1), (wide - 1, high - 1)):
                rows[y][x] = 0
            self.assertEqual((0, 0, wide, high), box_of(bits_of(rows)))

    def test_two_corners(self):
        for wide, high in SIDES:
            for here, there in (((0, 0), (wide - 1, high - 1)), ((wide - 1, 0), (0, high - 1))):
                rows = holes(wide, high)
                rows[here[1]][here[0]] = 7
                rows[there[1]][there[0]] = 0
                self.assertEqual((0, 0, wide, high), box_of(bits_of(rows)))

    def test_none(self):
        for wide, high in SIDES:
            self.assertIsNone(box_of(filled(wide, high)))

    def test_all(self):
        for wide, high in SIDES:
            self.assertEqual((0, 0, wide, high), box_of(filled(wide, high, 0)))

    def test_written_out(self):
        pic = bits_of([[None] * 5, [None, None, 0, None, None], [None] * 5, [None, None, None, 4, None], [None] * 5])
        self.assertEqual((2, 1, 2, 3), box_of(pic))
        self.assertIs(tuple, type(box_of(pic)))

    def test_least_with_all_painted_cells(self):
        for rows in some_rows():
            for x, y in ((0, 0), (2, 1), (-3, -2), (60, 60)):
                put = rows_laid(holes(64, 64), rows, x, y)
                spots = [(i, j) for j, row in enumerate(put) for i, cell in enumerate(row) if cell is not None]
                box = None
                if spots:
                    left, top = min(i for i, j in spots), min(j for i, j in spots)
                    right, low = max(i for i, j in spots), max(j for i, j in spots)
                    box = (left, top, right - left + 1, low - top + 1)
                self.assertEqual(box, box_of(bits_of(put)))


if __name__ == "__main__":
    unittest.main()
