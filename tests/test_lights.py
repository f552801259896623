"""Pictures lit by a table and bars [1, 2, 6, 24]."""

import copy
import itertools
import unittest

from glowboard.colours import table_of
from glowboard.lights import lit
from glowboard.pictures import filled

from helper import FAR, bits_of, holes, most_held, patterned, some_rows

TABLE = table_of([16 * colour + 7 for colour in range(16)])
OTHER = table_of([4095 - 256 * colour for colour in range(16)])


def tone_at(table, bars, colour, y):
    """The tone of a colour in a row, by looking at each bar in turn."""
    told, since = table[colour], None
    for row, of, tone in bars:
        if of == colour and row <= y and (since is None or row >= since):
            told, since = tone, row
    return told


def rows_lit(table, bars, rows):
    """The rows in tones, cell by cell."""
    return [[None if cell is None else tone_at(table, bars, cell, y) for cell in row] for y, row in enumerate(rows)]


def some_bars(seed, many):
    """So many bars of few rows and colours, in no order."""
    return [((number * 11 + seed) % 13 - 3, (number * 7 + seed) % 5, (number * 301 + seed) % 4096)
            for number in range(many)]


def column(*cells):
    """A picture of one column."""
    return bits_of([[cell] for cell in cells])


class LitTest(unittest.TestCase):

    def test_no_bars(self):
        self.assertEqual([[7, 23, None], [None, 247, 39]], lit(TABLE, [], bits_of([[0, 1, None], [None, 15, 2]])))
        for rows in some_rows():
            for table in (TABLE, OTHER):
                wanted = [[None if cell is None else table[cell] for cell in row] for row in rows]
                self.assertEqual(wanted, lit(table, [], bits_of(rows)))

    def test_from_a_row_on(self):
        pic = column(1, 1, 1, 1)
        self.assertEqual([[23], [23], [500], [500]], lit(TABLE, [(2, 1, 500)], pic))
        self.assertEqual([[500]] * 4, lit(TABLE, [(0, 1, 500)], pic))
        self.assertEqual([[23], [23], [23], [500]], lit(TABLE, [(3, 1, 500)], pic))
        self.assertEqual([[23], [0], [0], [4095]], lit(TABLE, [(1, 1, 0), (3, 1, 4095)], pic))

    def test_for_its_colour_alone(self):
        pic = bits_of([[0, 1, 2, None]] * 2)
        self.assertEqual([[7, 23, 39, None], [7, 500, 39, None]], lit(TABLE, [(1, 1, 500)], pic))
        self.assertEqual([[9, 23, 39, None], [9, 23, 8, None]], lit(TABLE, [(1, 2, 8), (0, 0, 9)], pic))
        self.assertEqual([[7, 23, 39, None]] * 2, lit(TABLE, [(0, 15, 1), (1, 3, 1)], pic))

    def test_below_nought(self):
        pic = column(1, 1)
        for row in (-1, -2, -64, -FAR):
            self.assertEqual([[500], [500]], lit(TABLE, [(row, 1, 500)], pic))
            self.assertEqual([[500], [600]], lit(TABLE, [(1, 1, 600), (row, 1, 500)], pic))
        self.assertEqual([[600], [600]], lit(TABLE, [(-1, 1, 600), (-FAR, 1, 500), (-2, 1, 400)], pic))

    def test_beyond_the_picture(self):
        pic = column(1, 1)
        for row in (2, 3, 64, FAR):
            self.assertEqual([[23], [23]], lit(TABLE, [(row, 1, 500)], pic))
            self.assertEqual([[23], [600]], lit(TABLE, [(row, 1, 500), (1, 1, 600), (row, 1, 700)], pic))
        self.assertEqual([[1], [1]], lit(TABLE, [(FAR, 1, 2), (-FAR, 1, 1)], pic))

    def test_of_one_row_and_colour_the_last_one_in_the_list(self):
        pic = column(1, 1, 1)
        self.assertEqual([[23], [300], [300]], lit(TABLE, [(1, 1, 500), (1, 1, 300)], pic))
        self.assertEqual([[23], [500], [500]], lit(TABLE, [(1, 1, 300), (1, 1, 500)], pic))
        bars = [(1, 1, 9), (2, 1, 8), (1, 1, 700), (1, 2, 6), (2, 1, 4), (1, 1, 5), (0, 1, 3)]
        self.assertEqual([[3], [5], [4]], lit(TABLE, bars, pic))
        self.assertEqual([[3], [9], [8]], lit(TABLE, list(reversed(bars)), pic))
        self.assertEqual([[0], [0], [0]], lit(TABLE, [(-FAR, 1, 4095), (-FAR, 1, 0)], pic))

    def test_not_in_the_order_of_rows(self):
        pic = column(4, 4, 4, 4, 4)
        for bars in itertools.permutations([(0, 4, 10), (2, 4, 12), (3, 4, 13), (-7, 4, 3), (9, 4, 19)]):
            self.assertEqual([[10], [10], [12], [13], [13]], lit(TABLE, list(bars), pic))

    def test_holes(self):
        for wide, high in ((1, 1), (3, 4), (64, 64)):
            bars = [(0, colour, 4095) for colour in range(16)]
            self.assertEqual(holes(wide, high), lit(TABLE, bars, filled(wide, high)))
            self.assertEqual([[4095] * wide] * high, lit(TABLE, bars, filled(wide, high, 0)))

    def test_tone_nought_is_no_hole(self):
        self.assertEqual([[0, None]], lit(table_of([0] * 16), [], bits_of([[3, None]])))
        self.assertEqual([[0, None]], lit(TABLE, [(0, 3, 0)], bits_of([[3, None]])))

    def test_cell_by_cell(self):
        for seed, many in itertools.product(range(6), (1, 2, 5, 20, 60)):
            bars = some_bars(seed, many)
            for rows in (patterned(7, 9, seed), patterned(1, 12, seed), patterned(64, 2, seed), patterned(3, 64, seed)):
                for table in (TABLE, OTHER):
                    self.assertEqual(rows_lit(table, bars, rows), lit(table, bars, bits_of(rows)))

    def test_sixty_bars_on_the_greatest_picture(self):
        bars = [(63 - number, number % 16, number * 60) for number in range(60)]
        rows = [[(x + y) % 16 for x in range(64)] for y in range(64)]
        self.assertEqual(rows_lit(TABLE, bars, rows), lit(TABLE, bars, bits_of(rows)))

    def test_far_bars_take_little(self):
        bars = [(-FAR, 1, 2), (FAR, 1, 3), (FAR - 1, 1, 4)]
        self.assertLess(most_held(lambda: lit(TABLE, bars, filled(1, 1, 1))), 100000)

    def test_what_is_handed_in_is_left_as_it_was(self):
        for bars in ([], some_bars(2, 9), [(5, 1, 2), (0, 1, 3), (5, 1, 1), (-1, 0, 0)]):
            pic = bits_of(patterned(5, 8, 2))
            before = copy.deepcopy((TABLE, bars, pic))
            lit(TABLE, bars, pic)
            self.assertEqual(before, (TABLE, bars, pic))

    def test_each_list_told_is_a_new_one(self):
        for bars, pic in (([], filled(2, 3, 4)), ([(1, 4, 5)], filled(2, 4, 4)), ([], filled(2, 3))):
            told, wanted = lit(TABLE, bars, pic), lit(TABLE, bars, pic)
            self.assertEqual([list] * (1 + len(told)), [type(told)] + [type(row) for row in told])
            self.assertEqual(len(told), len({id(row) for row in told}))
            told[0][0] = -1
            self.assertEqual(wanted[1:], told[1:])
            told.append(None)
            self.assertEqual(wanted, lit(TABLE, bars, pic))
            kept = lit(TABLE, bars, pic)
            bars.append((0, 4, 999))
            lit(TABLE, bars, pic)
            self.assertEqual(wanted, kept)


if __name__ == "__main__":
    unittest.main()
