"""Pictures slid, fresh boxes, and windows over a page [1, 2, 18, 19]."""

import itertools
import unittest

from glowboard.errors import NoLine, NoSign
from glowboard.fonts import Font
from glowboard.pages import view
from glowboard.pictures import filled, is_picture
from glowboard.windows import Window, fresh, slid

from helper import (
    FAR, MOST, SIDES, bits_of, most_held, page_rows, pairs_of, patterned, rows_cut, sign_rows, some_rows)

FEW = sign_rows("ab c~")
FONT = Font(pairs_of(FEW), 1)
LINES = ["ab~", "c", "", "b a", "ccc"]
UNITS = ((1, 1), (3, 2), (2, 5), (7, 4))


def steps_of(side):
    """Ways to slide a side: by nought, by less, by just a side, by more and far off, both ways."""
    return sorted({-FAR, -side - 1, -side, 1 - side, -1, 0, 1, side - 1, side, side + 1, FAR})


class SlidTest(unittest.TestCase):

    def assert_slid(self, rows, dx, dy):
        told = slid(bits_of(rows), dx, dy)
        self.assertEqual(bits_of(rows_cut(rows, dx, dy, len(rows[0]), len(rows))), told, (dx, dy))
        self.assertIs(True, is_picture(told))

    def test_written_out(self):
        pic = bits_of([[1, 2, 3], [4, None, 0]])
        self.assertEqual(pic, slid(pic, 0, 0))
        self.assertEqual(bits_of([[2, 3, None], [None, 0, None]]), slid(pic, 1, 0))
        self.assertEqual(bits_of([[None, 1, 2], [None, 4, None]]), slid(pic, -1, 0))
        self.assertEqual(bits_of([[4, None, 0], [None] * 3]), slid(pic, 0, 1))
        self.assertEqual(bits_of([[None] * 3, [1, 2, 3]]), slid(pic, 0, -1))
        self.assertEqual(bits_of([[None] * 3, [3, None, None]]), slid(pic, 2, -1))

    def test_cell_by_cell(self):
        for rows in some_rows(UNITS):
            for dx, dy in itertools.product(steps_of(len(rows[0])), steps_of(len(rows))):
                self.assert_slid(rows, dx, dy)

    def test_great(self):
        for wide, high in ((64, 64), (64, 1), (1, 64)):
            rows = patterned(wide, high, 4)
            for dx, dy in ((0, 0), (63, 0), (0, 63), (-63, -63), (64, 0), (0, -64), (31, -2), (FAR, 0), (0, -FAR)):
                self.assert_slid(rows, dx, dy)

    def test_no_row_of_bits_as_long_as_a_place(self):
        pic = filled(64, 2, 15)
        for dx, dy in ((FAR, 0), (-FAR, 0), (0, FAR), (0, -FAR), (FAR, -FAR)):
            self.assertLess(most_held(lambda: slid(pic, dx, dy)), 200000)


class FreshTest(unittest.TestCase):

    def assert_fresh(self, wide, high, dx, dy):
        told = fresh(wide, high, dx, dy)
        self.assertIs(list, type(told))
        self.assertLessEqual(len(told), 2)
        cells = []
        for box in told:
            self.assertEqual((tuple, 4), (type(box), len(box)))
            self.assertGreaterEqual(min(box[2:]), 1)
            self.assertTrue(0 <= box[0] and box[0] + box[2] <= wide and 0 <= box[1] and box[1] + box[3] <= high, box)
            cells.extend(itertools.product(range(box[0], box[0] + box[2]), range(box[1], box[1] + box[3])))
        self.assertEqual(len(cells), len(set(cells)), told)
        places = itertools.product(range(wide), range(high))
        wanted = {(i, j) for i, j in places if not (0 <= i + dx < wide and 0 <= j + dy < high)}
        self.assertEqual(wanted, set(cells), (wide, high, dx, dy))

    def test_by_nought(self):
        for wide, high in SIDES:
            self.assertEqual([], fresh(wide, high, 0, 0))

    def test_one_box(self):
        self.assertEqual([(4, 0, 1, 3)], fresh(5, 3, 1, 0))
        self.assertEqual([(0, 0, 2, 3)], fresh(5, 3, -2, 0))
        self.assertEqual([(0, 1, 5, 2)], fresh(5, 3, 0, 2))
        self.assertEqual([(0, 0, 5, 1)], fresh(5, 3, 0, -1))

    def test_each_way(self):
        for wide, high in UNITS + ((5, 7), (64, 1), (1, 64)):
            for dx, dy in itertools.product(steps_of(wide), steps_of(high)):
                self.assert_fresh(wide, high, dx, dy)

    def test_by_less_than_a_side(self):
        for dx, dy in itertools.product(range(-5, 6), range(-4, 5)):
            self.assert_fresh(5, 4, dx, dy)

    def test_great(self):
        for dx, dy in ((0, 0), (1, 1), (-1, 63), (63, -63), (64, 1), (1, -64), (-64, 64), (FAR, 0), (0, -FAR)):
            self.assert_fresh(64, 64, dx, dy)

    def test_just_where_a_picture_without_holes_has_holes_behind(self):
        for dx, dy in itertools.product(steps_of(6), steps_of(3)):
            pic = slid(filled(6, 3, 0), dx, dy)
            many = sum(box[2] * box[3] for box in fresh(6, 3, dx, dy))
            self.assertEqual(18 - many, sum(mask.bit_count() for mask in pic[3]))

    def test_each_list_told_is_a_new_one(self):
        for dx, dy in ((0, 0), (1, 0), (2, 1), (9, 9)):
            wanted, told = fresh(5, 4, dx, dy), fresh(5, 4, dx, dy)
            told.append(None)
            self.assertEqual(wanted, fresh(5, 4, dx, dy))


class WindowTest(unittest.TestCase):

    def assert_shows(self, window, lines, lead, wide, high):
        """Whether a window shows the page of these lines, where it lies."""
        x, y = window.spot()
        wanted = bits_of(rows_cut(page_rows(FEW, 1, lines, lead), x, y, wide, high))
        self.assertEqual(wanted, window.shown(), (x, y))
        for at, line in enumerate(lines):
            self.assertEqual(line, window.line(at))

    def test_at_first(self):
        for lead in (0, 1, 8):
            for lines in (LINES, [], [""], ["ab"] * 60):
                for wide, high in ((1, 1), (9, 7), (64, 64)):
                    window = Window(FONT, lines, lead, wide, high)
                    spot = window.spot()
                    self.assertEqual(((0, 0), tuple), (spot, type(spot)))
                    self.assert_shows(window, lines, lead, wide, high)

    def test_no_sign_at_first(self):
        for lines, sign, at in ((["x"], "x", 0), (["ab", "", "abx"], "x", 2), (["a"] * 59 + ["a%y"], "%", 1),
                                (["ab", "ay", "x"], "y", 1)):
            with self.assertRaises(NoSign) as caught:
                Window(FONT, lines, 1, 5, 5)
            self.assertEqual((sign, at), (caught.exception.sign, caught.exception.at))

    def test_scrolled_there_and_back(self):
        ways = ((1, 0), (0, 1), (-1, 0), (0, -1), (3, 2), (-3, -2), (0, 0), (-4, 5), (4, -5), (9, 0), (0, 12),
                (-9, -12), (100, -100), (-100, 100), (2, 30), (-2, -30), (-FAR, 0), (FAR, FAR), (FAR, -FAR),
                (-FAR, -FAR), (0, FAR), (5, 3))
        for lead in (0, 2):
            for wide, high in ((1, 1), (5, 4), (9, 12)):
                window = Window(FONT, LINES, lead, wide, high)
                x, y = 0, 0
                for dx, dy in ways:
                    left = max(0, wide - abs(dx)) * max(0, high - abs(dy))
                    self.assertEqual(wide * high - left, window.scroll(dx, dy))
                    x, y = x + dx, y + dy
                    self.assertEqual((x, y), window.spot())
                    self.assert_shows(window, LINES, lead, wide, high)
                self.assertEqual((5, 3), window.spot())

    def test_what_is_not_fresh_is_slid(self):
        window = Window(FONT, LINES, 1, 8, 9)
        for dx, dy in ((1, 1), (-2, 3), (0, -4), (7, 0), (-3, 8), (2, -8), (-8, 0), (0, 0)):
            before = window.shown()
            window.scroll(dx, dy)
            told, boxes = window.shown(), fresh(8, 9, dx, dy)
            old, new = slid(before, dx, dy), told
            for j in range(9):
                for i in range(8):
                    if not any(x <= i < x + wide and y <= j < y + high for x, y, wide, high in boxes):
                        self.assertEqual((old[2][j] >> 4 * i) & 15, (new[2][j] >> 4 * i) & 15)
                        self.assertEqual((old[3][j] >> i) & 1, (new[3][j] >> i) & 1)

    def test_far_off_and_from_there_far_back(self):
        window = Window(FONT, LINES, 0, 64, 64)
        for dx, dy in ((FAR, FAR), (-FAR, -FAR), (-FAR, FAR), (FAR, -FAR)):
            self.assertEqual(64 * 64, window.scroll(dx, dy))
            self.assert_shows(window, LINES, 0, 64, 64)
        self.assertEqual((0, 0), window.spot())
        window.scroll(-FAR, -FAR)
        self.assertEqual(64 * 64, window.scroll(2 * FAR, 2 * FAR))
        self.assertEqual(((FAR, FAR), filled(64, 64)), (window.spot(), window.shown()))
        self.assertLess(most_held(window.shown), 300000)

    def many_on_line(self, window, lead, at, wide, high):
        """How many cells of a window lie on a line's rows, by asking each cell's row."""
        top = at * (3 + lead)
        y = window.spot()[1]
        return sum(1 for j in range(high) for i in range(wide) if top <= y + j < top + 3)

    def test_a_line_put_otherwise(self):
        for lead in (0, 1, 8):
            for wide, high in ((1, 1), (6, 5), (12, 64)):
                window = Window(FONT, LINES, lead, wide, high)
                lines = list(LINES)
                for number, (dx, dy) in enumerate(((0, 0), (1, 1), (0, 1), (0, 1), (-5, 2), (0, 9), (0, -20), (0, 7))):
                    window.scroll(dx, dy)
                    spot = window.spot()
                    for at in range(5):
                        text = "ab c~"[(number + at) % 5:] * ((number + at) % 3)
                        wanted = self.many_on_line(window, lead, at, wide, high)
                        self.assertEqual(wanted, window.edit(at, text))
                        lines[at] = text
                        self.assertEqual(spot, window.spot())
                        self.assert_shows(window, lines, lead, wide, high)

    def test_seen_half_seen_and_not_seen(self):
        window = Window(FONT, ["a", "b", "c"], 1, 10, 6)
        self.assertEqual([30, 20, 0], [window.edit(at, "~") for at in range(3)])
        window.scroll(0, 2)
        self.assertEqual([10, 30, 0], [window.edit(at, "a") for at in range(3)])
        window.scroll(0, 1)
        self.assertEqual([0, 30, 10], [window.edit(at, "b") for at in range(3)])
        window.scroll(0, 8)
        self.assertEqual([0, 0, 0], [window.edit(at, "c") for at in range(3)])
        window.scroll(0, -1)
        self.assertEqual([0, 0, 10], [window.edit(at, "") for at in range(3)])

    def test_smaller_than_a_line(self):
        window = Window(FONT, ["a", "b"], 2, 4, 1)
        for wanted in ([4, 0], [4, 0], [4, 0], [0, 0], [0, 0], [0, 4], [0, 4], [0, 4], [0, 0]):
            self.assertEqual(wanted, [window.edit(at, "a") for at in range(2)])
            window.scroll(0, 1)

    def test_whatever_the_cells_hold_and_wherever_the_window_lies_along_the_line(self):
        window = Window(FONT, ["a", ""], 0, 7, 3)
        for dx in (0, 50, -100, FAR, -FAR, -FAR):
            window.scroll(dx, 0)
            self.assertEqual((21, 21), (window.edit(0, ""), window.edit(0, "ab" * 40)))
        self.assertEqual(0, window.edit(1, "a"))

    def test_far_off_a_line_is_not_seen(self):
        for dy in (FAR, -FAR):
            window = Window(FONT, LINES, 8, 64, 64)
            window.scroll(0, dy)
            self.assertEqual([0] * 5, [window.edit(at, "ab") for at in range(5)])
            window.scroll(0, -dy)
            self.assert_shows(window, ["ab"] * 5, 8, 64, 64)

    def test_no_line(self):
        for lines in ([], ["ab"], LINES, ["a"] * 60):
            window = Window(FONT, lines, 1, 9, 9)
            window.scroll(-1, 1)
            before = window.shown()
            many = len(lines)
            for at in (-1, -2, -many, -many - 1, many, many + 1, 10 ** 20, -FAR, MOST, -MOST):
                for text in ("ab", "", "x", "%"):
                    with self.assertRaises(NoLine):
                        window.edit(at, text)
                with self.assertRaises(NoLine):
                    window.line(at)
            self.assertEqual((before, (-1, 1)), (window.shown(), window.spot()))
            self.assertEqual(lines, [window.line(at) for at in range(many)])
            if many > 0:
                self.assertEqual(lines[0], window.line(0))
                self.assertEqual(lines[-1], window.line(many - 1))
                window.edit(many - 1, "b")

    def test_no_sign(self):
        for at in range(5):
            window = Window(FONT, LINES, 1, 20, 20)
            window.scroll(2, 3)
            before = window.shown()
            for text, sign, place in (("x", "x", 0), ("abx", "x", 2), ("yx", "y", 0), ("a" * 199 + "%", "%", 199)):
                with self.assertRaises(NoSign) as caught:
                    window.edit(at, text)
                self.assertEqual((sign, place), (caught.exception.sign, caught.exception.at))
                self.assertEqual((before, (2, 3), LINES[at]), (window.shown(), window.spot(), window.line(at)))

    def test_no_sign_for_a_line_that_is_not_seen(self):
        window = Window(FONT, LINES, 1, 2, 2)
        window.scroll(FAR, FAR)
        with self.assertRaises(NoSign):
            window.edit(4, "x")
        self.assertEqual("ccc", window.line(4))

    def test_the_lines_handed_in_are_kept_as_a_copy(self):
        lines = list(LINES)
        window, other = Window(FONT, lines, 1, 20, 20), Window(FONT, lines, 1, 20, 20)
        before = window.shown()
        lines[0] = "ccc"
        lines.append("a")
        lines.pop(1)
        self.assertEqual(before, window.shown())
        self.assertEqual(LINES, [window.line(at) for at in range(5)])
        with self.assertRaises(NoLine):
            window.line(5)
        window.edit(0, "~")
        self.assertEqual(["ccc", "", "b a", "ccc", "a"], lines)
        self.assertEqual((before, "ab~"), (other.shown(), other.line(0)))

    def test_what_is_shown_is_the_view(self):
        window = Window(FONT, LINES, 3, 11, 13)
        for dx, dy in ((0, 0), (2, 5), (-7, -1)):
            window.scroll(dx, dy)
            x, y = window.spot()
            self.assertEqual(view(FONT, LINES, 3, x, y, 11, 13), window.shown())
            self.assertEqual(window.shown(), window.shown())


if __name__ == "__main__":
    unittest.main()
