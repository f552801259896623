"""Pictures turned, mirrored, upended and posed [1, 7, 8]."""

import unittest

from glowboard.pictures import is_picture
from glowboard.turns import after, mirrored, posed, turned, undone, upended

from helper import bits_of, some_rows

POSES = range(8)

# No pose but 0 leaves a picture of these cells as it is, and no two poses do the same to it.
UNLIKE = [[0, None, 1], [None, None, 2]]

POSED = (
    [[0, None, 1], [None, None, 2]],
    [[None, 0], [None, None], [2, 1]],
    [[2, None, None], [1, None, 0]],
    [[1, 2], [None, None], [0, None]],
    [[1, None, 0], [2, None, None]],
    [[2, 1], [None, None], [None, 0]],
    [[None, None, 2], [0, None, 1]],
    [[0, None], [None, None], [1, 2]],
)


def rows_turned(rows):
    """Cell by cell as the document tells it."""
    high = len(rows)
    return [[rows[high - 1 - x][y] for x in range(high)] for y in range(len(rows[0]))]


def rows_mirrored(rows):
    wide = len(rows[0])
    return [[rows[y][wide - 1 - x] for x in range(wide)] for y in range(len(rows))]


def rows_upended(rows):
    high = len(rows)
    return [[rows[high - 1 - y][x] for x in range(len(rows[0]))] for y in range(high)]


def rows_posed(rows, pose):
    told = rows_mirrored(rows) if pose >= 4 else rows
    for quarter in range(pose % 4):
        told = rows_turned(told)
    return told


class TurnsTest(unittest.TestCase):

    def test_written_out(self):
        pic = bits_of([[1, 2, 3], [4, None, 0]])
        self.assertEqual(bits_of([[4, 1], [None, 2], [0, 3]]), turned(pic))
        self.assertEqual(bits_of([[3, 2, 1], [0, None, 4]]), mirrored(pic))
        self.assertEqual(bits_of([[4, None, 0], [1, 2, 3]]), upended(pic))

    def test_one_cell(self):
        for cell in (None,) + tuple(range(16)):
            pic = bits_of([[cell]])
            for told in (turned(pic), mirrored(pic), upended(pic)):
                self.assertEqual(pic, told)

    def test_one_row_and_one_column(self):
        row = [[0, None] + [x % 16 for x in range(61)] + [None]]
        column = [[cell] for cell in row[0]]
        self.assertEqual(bits_of(column), turned(bits_of(row)))
        self.assertEqual(bits_of([row[0][::-1]]), turned(bits_of(column)))
        self.assertEqual(bits_of([row[0][::-1]]), mirrored(bits_of(row)))
        self.assertEqual(bits_of(column), mirrored(bits_of(column)))
        self.assertEqual(bits_of(row), upended(bits_of(row)))
        self.assertEqual(bits_of(column[::-1]), upended(bits_of(column)))

    def test_a_hole_beside_colour_nought(self):
        self.assertEqual((1, 2, (0, 0), (1, 0)), turned((2, 1, (0,), (1,))))
        self.assertEqual((2, 1, (0,), (2,)), mirrored((2, 1, (0,), (1,))))
        self.assertEqual((1, 2, (0, 0), (0, 1)), upended((1, 2, (0, 0), (1, 0))))

    def test_cell_by_cell(self):
        for rows in some_rows():
            pic = bits_of(rows)
            self.assertEqual(bits_of(rows_turned(rows)), turned(pic))
            self.assertEqual(bits_of(rows_mirrored(rows)), mirrored(pic))
            self.assertEqual(bits_of(rows_upended(rows)), upended(pic))

    def test_they_are_pictures(self):
        for rows in some_rows():
            for told in (turned, mirrored, upended):
                self.assertIs(True, is_picture(told(bits_of(rows))))

    def test_all_is_as_it_was(self):
        for rows in some_rows():
            pic = bits_of(rows)
            self.assertEqual(pic, turned(turned(turned(turned(pic)))))
            self.assertEqual(pic, mirrored(mirrored(pic)))
            self.assertEqual(pic, upended(upended(pic)))

    def test_not_before(self):
        pic = bits_of(UNLIKE)
        told = [pic, turned(pic), turned(turned(pic)), turned(turned(turned(pic))), mirrored(pic), upended(pic)]
        self.assertEqual(len(told), len(set(told)))


class PosesTest(unittest.TestCase):

    def test_written_out(self):
        for pose in POSES:
            self.assertEqual(bits_of(POSED[pose]), posed(bits_of(UNLIKE), pose), pose)

    def test_no_two_do_the_same(self):
        self.assertEqual(8, len({posed(bits_of(UNLIKE), pose) for pose in POSES}))

    def test_cell_by_cell(self):
        for rows in some_rows():
            for pose in POSES:
                self.assertEqual(bits_of(rows_posed(rows, pose)), posed(bits_of(rows), pose), pose)

    def test_they_are_pictures(self):
        for rows in some_rows():
            for pose in POSES:
                self.assertIs(True, is_picture(posed(bits_of(rows), pose)))

    def test_one_behind_the_other_is_one_pose(self):
        for one in POSES:
            for other in POSES:
                pose = after(one, other)
                self.assertIs(int, type(pose))
                self.assertIn(pose, POSES)
                told = bits_of(rows_posed(rows_posed(UNLIKE, one), other))
                self.assertEqual(told, bits_of(rows_posed(UNLIKE, pose)), (one, other))
                self.assertEqual(told, posed(bits_of(UNLIKE), pose), (one, other))

    def test_one_behind_the_other_on_many_pictures(self):
        for rows in some_rows(((1, 1), (64, 1), (1, 64), (3, 3), (5, 7))):
            pic = bits_of(rows)
            for one in POSES:
                for other in POSES:
                    self.assertEqual(posed(posed(pic, one), other), posed(pic, after(one, other)))

    def test_some_pairs_written_out(self):
        self.assertEqual(3, after(1, 2))
        self.assertEqual(0, after(3, 1))
        self.assertEqual(5, after(4, 1))
        self.assertEqual(7, after(1, 4))
        self.assertEqual(0, after(4, 4))
        self.assertEqual(1, after(5, 6))
        self.assertEqual(3, after(6, 5))

    def test_each_pose_undone(self):
        self.assertEqual([0, 3, 2, 1, 4, 5, 6, 7], [undone(pose) for pose in POSES])
        for pose in POSES:
            self.assertIs(int, type(undone(pose)))
            self.assertEqual((0, 0), (after(pose, undone(pose)), after(undone(pose), pose)))

    def test_undone_all_is_as_it_was(self):
        for rows in some_rows():
            pic = bits_of(rows)
            for pose in POSES:
                self.assertEqual(pic, posed(posed(pic, pose), undone(pose)), pose)

    def test_upended_is_a_pose(self):
        for rows in some_rows():
            self.assertEqual(upended(bits_of(rows)), posed(bits_of(rows), 6))


if __name__ == "__main__":
    unittest.main()
