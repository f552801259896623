"""Cells and pictures, bit by bit [1, 2, 4, 5]."""

import copy
import unittest

from glowboard.errors import GlowError, NoPicture
from glowboard.pictures import cell_of, filled, is_picture, many_painted, pictured, rows_of

from helper import FAR, MOST, SIDES, bits_of, deep, no_numbers, patterned, some_rows

CELLS = (None,) + tuple(range(16))


class PicturedTest(unittest.TestCase):

    def test_one_cell(self):
        self.assertEqual((1, 1, (0,), (0,)), pictured([[None]]))
        for colour in range(16):
            self.assertEqual((1, 1, (colour,), (1,)), pictured([[colour]]))

    def test_colour_nought_beside_a_hole(self):
        self.assertEqual((2, 1, (0,), (1,)), pictured([[0, None]]))
        self.assertEqual((2, 1, (0,), (2,)), pictured([[None, 0]]))
        self.assertEqual((2, 1, (0,), (3,)), pictured([[0, 0]]))

    def test_the_left_cell_is_in_the_lowest_bits_and_the_top_row_comes_first(self):
        rows = [[1, 2, None], [None, 15, 0]]
        self.assertEqual((3, 2, (0x021, 0x0F0), (0b011, 0b110)), pictured(rows))

    def test_bits_of_many_sides(self):
        for rows in some_rows():
            self.assertEqual(bits_of(rows), pictured(rows))

    def test_greatest_row(self):
        self.assertEqual((64, 1, (2 ** 256 - 1,), (2 ** 64 - 1,)), pictured([[15] * 64]))
        self.assertEqual((64, 1, (2 ** 252,), (2 ** 63,)), pictured([[None] * 63 + [1]]))

    def test_parts_are_tuples_and_whole_numbers(self):
        pic = pictured(patterned(5, 7))
        self.assertIs(tuple, type(pic))
        self.assertIs(tuple, type(pic[2]))
        self.assertIs(tuple, type(pic[3]))
        for number in pic[:2] + pic[2] + pic[3]:
            self.assertIs(int, type(number))

    def test_equal_just_where_sides_and_cells_are(self):
        told = [pictured([[one, other]]) for one in CELLS for other in CELLS]
        self.assertEqual(17 * 17, len(set(told)))
        self.assertEqual(told, [pictured([[one, other]]) for one in CELLS for other in CELLS])
        self.assertNotEqual(pictured([[None, None]]), pictured([[None], [None]]))
        self.assertNotEqual(pictured([[None]]), pictured([[None, None]]))

    def test_a_row_that_stands_twice(self):
        row = [4, None]
        self.assertEqual(bits_of([[4, None], [4, None]]), pictured([row, row]))

    def test_rows_are_left_as_they_were_and_kept_as_a_copy(self):
        rows = patterned(5, 7)
        before = copy.deepcopy(rows)
        pic = pictured(rows)
        self.assertEqual(before, rows)
        rows[0][0] = 9
        rows[3].append(1)
        rows.append([1])
        self.assertEqual(bits_of(before), pic)
        self.assertEqual(before, rows_of(pic))


class NoPictureTest(unittest.TestCase):

    def assert_refused(self, row, rows):
        before = copy.deepcopy(rows)
        with self.assertRaises(NoPicture) as caught:
            pictured(rows)
        self.assertIs(NoPicture, type(caught.exception))
        self.assertIsInstance(caught.exception, GlowError)
        self.assertEqual(row, caught.exception.row, rows)
        self.assertIsNot(False, caught.exception.row)
        self.assertIsNot(True, caught.exception.row)
        self.assertEqual(before, rows)

    def test_no_list(self):
        for thing in no_numbers() + [0, 1, -1, MOST, ([1],), ([1], [2]), {0: [1]}, "12", filled(1, 1, 1)]:
            if not isinstance(thing, list):
                self.assert_refused(None, thing)

    def test_not_one_to_sixty_four_rows(self):
        self.assert_refused(None, [])
        self.assert_refused(None, [[1]] * 65)
        self.assert_refused(None, [[1]] * 66)
        self.assert_refused(None, [None] * 65)
        self.assert_refused(None, [[1]] * 64 + [[16]])
        self.assertEqual(64, pictured([[1]] * 64)[1])

    def test_a_row_that_is_no_list(self):
        for thing in no_numbers() + [0, 3, -1, MOST, (1, 2), "12", {0: 1, 1: 2}, deep(9)]:
            if not isinstance(thing, list):
                self.assert_refused(0, [thing])
                self.assert_refused(0, [thing, [1, 2]])
                self.assert_refused(1, [[1, 2], thing])
                self.assert_refused(2, [[1, 2], [3, None], thing, [5, 6]])

    def test_a_row_of_no_cells_or_of_too_many(self):
        self.assert_refused(0, [[]])
        self.assert_refused(0, [[], []])
        self.assert_refused(0, [[], [1]])
        self.assert_refused(1, [[1], []])
        self.assert_refused(0, [[1] * 65])
        self.assert_refused(0, [[1] * 65, [1] * 65])
        self.assert_refused(0, [[None] * 65, [1]])
        self.assert_refused(1, [[1] * 64, [1] * 65])
        self.assert_refused(1, [[1], [1] * 65])

    def test_a_row_unlike_the_first_in_length(self):
        self.assert_refused(1, [[1, 2], [1]])
        self.assert_refused(1, [[1, 2], [1, 2, 3]])
        self.assert_refused(2, [[1, 2], [1, 2], [1]])
        self.assert_refused(1, [[1], [1, 2], [1, 2]])
        self.assert_refused(1, [[1, 2, 3], [1, 2], [1, 2]])
        self.assert_refused(63, [[1, 2]] * 63 + [[1]])

    def test_a_thing_that_is_no_cell(self):
        others = [thing for thing in no_numbers() if thing is not None]
        for thing in others + [-1, 16, 17, -16, 255, MOST, -MOST]:
            self.assert_refused(0, [[thing]])
            self.assert_refused(0, [[1, thing]])
            self.assert_refused(0, [[thing, None], [1, 2]])
            self.assert_refused(1, [[1, 2], [thing, 2]])
            self.assert_refused(1, [[1, 2, 3], [1, thing, 2], [3, 4, 5]])
            self.assert_refused(63, [[1, 2]] * 63 + [[None, thing]])

    def test_the_first_row_at_fault_is_told(self):
        self.assert_refused(1, [[1, 2], [1, 16], (1, 2), [1]])
        self.assert_refused(1, [[1, 2], (1, 2), [1, 16], [1]])
        self.assert_refused(1, [[1, 2], [1], [1, 16], (1, 2)])
        self.assert_refused(1, [[1, 2], [], [1, 16], (1, 2)])
        self.assert_refused(0, [[1, 16], [1], None, []])
        self.assert_refused(0, [[-1], [1, 2], [1, 2]])
        self.assert_refused(0, ["12", [1], [16]])
        self.assert_refused(2, [[None], [0], [True], [False]])


class RowsOfTest(unittest.TestCase):

    def test_behind_pictured_all_is_as_it_was(self):
        for rows in some_rows():
            pic = pictured(rows)
            self.assertEqual(rows, rows_of(pic))
            self.assertEqual(pic, pictured(rows_of(pic)))

    def test_written_out(self):
        self.assertEqual([[0, None, 15], [None, 1, None]], rows_of((3, 2, (0xF00, 0x010), (0b101, 0b010))))

    def test_kinds(self):
        rows = rows_of(pictured(patterned(7, 5)))
        self.assertIs(list, type(rows))
        for row in rows:
            self.assertIs(list, type(row))
            for cell in row:
                self.assertIn(type(cell), (int, type(None)))

    def test_told_lists_are_the_askers_own(self):
        for pic in (pictured(patterned(4, 3)), filled(4, 3, 2), filled(4, 3)):
            before = rows_of(pic)
            told = rows_of(pic)
            told[0][0] = 11
            told[2].append(3)
            self.assertEqual(before[1], told[1])
            told.append([5])
            self.assertEqual(before, rows_of(pic))
            self.assertEqual(before, [[cell_of(pic, x, y) for x in range(4)] for y in range(3)])


class CellOfTest(unittest.TestCase):

    def test_on_the_picture(self):
        for rows in some_rows():
            pic = pictured(rows)
            for y, row in enumerate(rows):
                for x, cell in enumerate(row):
                    self.assertEqual(cell, cell_of(pic, x, y))

    def test_just_off_each_side(self):
        for wide, high in SIDES:
            pic = filled(wide, high, 15)
            for x in (-2, -1, wide, wide + 1):
                for y in range(-1, high + 1):
                    self.assertIsNone(cell_of(pic, x, y))
            for y in (-2, -1, high, high + 1):
                for x in range(-1, wide + 1):
                    self.assertIsNone(cell_of(pic, x, y))
            for x in (0, wide - 1):
                for y in (0, high - 1):
                    self.assertEqual(15, cell_of(pic, x, y))

    def test_far_off(self):
        for wide, high in SIDES:
            pic = filled(wide, high, 15)
            for far in (-FAR, 1 - FAR, -65, -64, 64, 65, FAR - 1, FAR):
                for near in (-1, 0, wide - 1, high - 1, FAR, -FAR):
                    self.assertIsNone(cell_of(pic, far, near))
                    self.assertIsNone(cell_of(pic, near, far))


class ManyPaintedTest(unittest.TestCase):

    def test_cells_that_are_no_holes(self):
        for rows in some_rows():
            many = sum(1 for row in rows for cell in row if cell is not None)
            self.assertEqual(many, many_painted(pictured(rows)))

    def test_colour_nought_is_painted(self):
        self.assertEqual(1, many_painted(pictured([[0, None]])))
        self.assertEqual(4096, many_painted(filled(64, 64, 0)))

    def test_edges(self):
        self.assertEqual(0, many_painted(filled(64, 64)))
        self.assertEqual(64, many_painted(filled(64, 1, 15)))
        self.assertEqual(1, many_painted(pictured([[None] * 63 + [0]])))


class FilledTest(unittest.TestCase):

    def test_with_each_cell(self):
        for wide, high in SIDES:
            for cell in CELLS:
                rows = [[cell] * wide for y in range(high)]
                self.assertEqual(bits_of(rows), filled(wide, high, cell))
                self.assertIs(True, is_picture(filled(wide, high, cell)))

    def test_with_the_cell_left_out(self):
        for wide, high in SIDES:
            self.assertEqual((wide, high, (0,) * high, (0,) * high), filled(wide, high))

    def test_written_out(self):
        self.assertEqual((3, 2, (0x777, 0x777), (7, 7)), filled(3, 2, 7))
        self.assertEqual((3, 1, (0,), (7,)), filled(3, 1, 0))


class IsPictureTest(unittest.TestCase):

    def test_good_ones(self):
        for rows in some_rows():
            self.assertIs(True, is_picture(bits_of(rows)))
            self.assertIs(True, is_picture(pictured(rows)))
        self.assertIs(True, is_picture((1, 1, (15,), (1,))))
        self.assertIs(True, is_picture((2, 1, (0,), (2,))))

    def assert_none(self, *things):
        for thing in things:
            self.assertIs(False, is_picture(thing), thing)

    def test_a_bit_beyond_the_wide(self):
        for wide in (1, 2, 5, 63, 64):
            all_paint = 16 ** wide - 1
            all_mask = 2 ** wide - 1
            self.assertIs(True, is_picture((wide, 1, (all_paint,), (all_mask,))))
            for more in (0, 1, 3, 20):
                self.assert_none((wide, 1, (0,), (2 ** (wide + more),)))
                self.assert_none((wide, 1, (0,), (all_mask + 2 ** (wide + more),)))
                self.assert_none((wide, 1, (all_paint + 2 ** (4 * wide + more),), (all_mask,)))
                self.assert_none((wide, 1, (2 ** (4 * wide + more),), (0,)))
                self.assert_none((wide, 1, (16 ** (wide + more),), (2 ** (wide + more),)))

    def test_a_colour_under_a_hole(self):
        for x in range(4):
            for colour in range(1, 16):
                self.assert_none((4, 1, (colour * 16 ** x,), (0,)))
                self.assert_none((4, 1, (colour * 16 ** x,), (15 - 2 ** x,)))
                self.assertIs(True, is_picture((4, 1, (colour * 16 ** x,), (2 ** x,))))
        self.assert_none((64, 1, (16 ** 63,), (2 ** 63 - 1,)))

    def test_a_fault_in_any_row(self):
        for y in range(3):
            paints = [0x11] * 3
            masks = [3] * 3
            self.assertIs(True, is_picture((2, 3, tuple(paints), tuple(masks))))
            masks[y] = 1
            self.assert_none((2, 3, tuple(paints), tuple(masks)))
            masks[y] = 7
            self.assert_none((2, 3, tuple(paints), tuple(masks)))
            masks[y] = 3
            paints[y] = 0x111
            self.assert_none((2, 3, tuple(paints), tuple(masks)))

    def test_a_number_below_nought(self):
        self.assert_none((1, 1, (-1,), (1,)), (1, 1, (0,), (-1,)), (1, 1, (-1,), (-1,)), (1, 1, (15,), (-1,)))
        self.assert_none((1, 1, (-16,), (1,)), (1, 1, (0,), (-2,)), (64, 1, (0,), (-2 ** 64,)))
        self.assert_none((-1, 1, (0,), (0,)), (1, -1, (0,), (0,)), (1, -1, (), ()))
        self.assert_none((1, 2, (15, -1), (1, 1)), (1, 2, (15, 15), (1, -1)))

    def test_a_row_more_or_fewer(self):
        self.assert_none((1, 2, (1,), (1,)), (1, 2, (1, 1), (1,)), (1, 2, (1,), (1, 1)))
        self.assert_none((1, 2, (1, 1, 1), (1, 1, 1)), (1, 2, (1, 1, 1), (1, 1)), (1, 2, (1, 1), (1, 1, 1)))
        self.assert_none((1, 1, (), ()), (1, 1, (1,), ()), (1, 1, (), (1,)))
        self.assert_none((1, 64, (1,) * 63, (1,) * 63), (1, 64, (1,) * 65, (1,) * 65))

    def test_lists_for_tuples(self):
        self.assert_none([1, 1, (1,), (1,)], (1, 1, [1], (1,)), (1, 1, (1,), [1]), (1, 1, [1], [1]))
        self.assert_none([1, 1, [1], [1]], [[1]], [[None]])

    def test_sides_beyond_their_bounds(self):
        for side in (0, 65, 66, -1, 10 ** 119, -10 ** 119):
            self.assert_none((side, 1, (0,), (0,)), (1, side, (0,), (0,)), (side, side, (0,), (0,)))
        self.assert_none((1, 0, (), ()), (0, 0, (), ()), (1, 65, (0,) * 65, (0,) * 65))
        self.assert_none((65, 1, (0,), (0,)), (65, 65, (0,) * 65, (0,) * 65))

    def test_truths_for_numbers(self):
        self.assert_none((True, 1, (1,), (1,)), (1, True, (1,), (1,)), (1, 1, (True,), (1,)), (1, 1, (1,), (True,)))
        self.assert_none((1, 1, (False,), (1,)), (1, 1, (0,), (False,)), (1, 2, (1, True), (1, 1)))
        self.assert_none((1, 2, (1, 1), (1, True)), (True, True, (True,), (True,)))

    def test_other_things_in_the_place_of_each_part(self):
        for thing in no_numbers():
            self.assert_none((thing, 1, (1,), (1,)), (1, thing, (1,), (1,)))
            self.assert_none((1, 1, (thing,), (1,)), (1, 1, (1,), (thing,)), (1, 1, (thing,), (thing,)))
            if thing != (0,):
                self.assert_none((1, 1, thing, (1,)), (1, 1, (0,), thing), (1, 1, thing, thing))
        for number in (0, 1, 15, MOST, 10 ** 120 - 1):
            self.assert_none((1, 1, number, (1,)), (1, 1, (1,), number), (1, 1, number, number))

    def test_texts_and_dicts_of_the_right_length(self):
        self.assert_none("1111", {0: 1, 1: 1, 2: (1,), 3: (1,)}, (1, 1, "1", "1"), (1, 1, {1: 1}, {1: 1}))

    def test_more_or_fewer_parts(self):
        self.assert_none((), (1,), (1, 1), (1, 1, (1,)), (1, 1, (1,), (1,), ()), (1, 1, (1,), (1,), 1), ((1,), (1,)))
        self.assert_none((filled(1, 1, 1),))

    def test_numbers_of_many_figures(self):
        full = 2 ** 64 - 1
        self.assertIs(True, is_picture((64, 1, (MOST,), (full,))))
        self.assert_none((64, 1, (-MOST,), (full,)), (49, 1, (MOST,), (2 ** 49 - 1,)))
        for number in (10 ** 119, 10 ** 120 - 1):
            self.assert_none((64, 1, (number,), (full,)), (64, 1, (-number,), (full,)))
        for number in (MOST, 10 ** 119, 10 ** 120 - 1):
            for many in (number, -number):
                self.assert_none((64, 1, (0,), (many,)), (64, 1, (many,), (many,)), (64, 1, (many,), (0,)))
                self.assert_none((many, 1, (0,), (0,)), (1, many, (0,), (0,)), (many, many, (0,), (0,)), many)

    def test_things_that_are_no_tuples_at_all(self):
        self.assert_none(*no_numbers())
        self.assert_none(0, 1, -1, 4, MOST)

    def test_what_is_asked_of_stays_as_it_was(self):
        thing = (1, 1, [1], {0: [1]})
        before = copy.deepcopy(thing)
        is_picture(thing)
        self.assertEqual(before, thing)


if __name__ == "__main__":
    unittest.main()
