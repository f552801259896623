"""Where pictures at places touch, and when goers first do [1, 2, 22]."""

import copy
import itertools
import unittest

from glowboard.errors import NoSpot
from glowboard.pictures import filled
from glowboard.touching import first_touch, touch, touches
from glowboard.ways import spot_of

from helper import FAR, bits_of, holes, most_held, patterned

LITTLE = 200000
DOT = filled(1, 1, 0)


def painted_places(rows, x, y):
    """The places of the painted cells of rows that lie at a place, as pairs (y, x), so that they sort row by row."""
    return {(y + j, x + i) for j, row in enumerate(rows) for i, cell in enumerate(row) if cell is not None}


def place_of(one, other):
    """Where two rows at places touch, by all places that both have."""
    shared = painted_places(one[0], one[1], one[2]) & painted_places(other[0], other[1], other[2])
    return (min(shared)[1], min(shared)[0]) if shared else None


def at_place(some):
    """The picture at a place of rows at a place."""
    return (bits_of(some[0]), some[1], some[2])


def thin(wide, high, seed):
    """Rows of few painted cells, so that such ones often lie over one another without touching."""
    return [[(x + y) % 16 if (x * 5 + y * 3 + seed) % 7 < 2 else None for x in range(wide)] for y in range(high)]


class TouchTest(unittest.TestCase):

    def assert_touch(self, wanted, one, other):
        """Whether two pictures at places touch there, whichever of them is told first."""
        told = touch(one, other)
        self.assertEqual((wanted, wanted), (told, touch(other, one)), (one[1:], other[1:]))
        self.assertIs(tuple if wanted is not None else type(None), type(told))

    def test_written_out(self):
        one = bits_of([[1, None], [None, 2]])
        self.assert_touch((0, 0), (one, 0, 0), (one, 0, 0))
        self.assert_touch((5, -3), (one, 5, -3), (one, 4, -4))
        self.assert_touch(None, (one, 0, 0), (one, 1, 0))
        self.assert_touch(None, (one, 0, 0), (one, 0, 1))
        self.assert_touch(None, (one, 0, 0), (one, -1, 1))
        self.assert_touch((1, 1), (one, 0, 0), (filled(3, 3, 0), 1, 1))

    def test_holes_alone_in_common(self):
        self.assert_touch(None, (bits_of([[1, None, 1]]), 0, 0), (bits_of([[None, 1, None]]), 0, 0))
        ring = bits_of([[4, 4, 4], [4, None, 4], [4, 4, 4]])
        self.assert_touch(None, (ring, 7, 7), (DOT, 8, 8))
        self.assert_touch(None, (ring, 7, 7), (bits_of([[None] * 3, [None, 2, None], [None] * 3]), 7, 7))
        self.assert_touch(None, (filled(64, 64), 0, 0), (filled(64, 64, 15), 0, 0))
        self.assert_touch(None, (filled(5, 5), 2, 2), (filled(5, 5), 2, 2))

    def test_one_painted_cell_in_common(self):
        ring = bits_of([[4, 4, 4], [4, None, 4], [4, 4, 4]])
        for i, j in itertools.product(range(3), range(3)):
            wanted = None if (i, j) == (1, 1) else (10 + i, j - 20)
            self.assert_touch(wanted, (ring, 10, -20), (DOT, 10 + i, j - 20))
        self.assert_touch((63, 63), (filled(64, 64, 1), 0, 0), (filled(64, 64, 2), 63, 63))
        self.assert_touch((0, 63), (filled(64, 64, 1), 0, 0), (filled(64, 64, 2), -63, 63))

    def test_colour_nought_is_a_painted_cell(self):
        self.assert_touch((3, 4), (DOT, 3, 4), (DOT, 3, 4))
        self.assert_touch((3, 4), (filled(2, 2, 0), 3, 4), (filled(2, 2, 0), 2, 3))

    def test_side_by_side(self):
        for wide, high in ((1, 1), (2, 3), (64, 64)):
            pic = filled(wide, high, 9)
            for x, y in ((wide, 0), (-wide, 0), (0, high), (0, -high), (wide, high), (-wide, high)):
                self.assert_touch(None, (pic, 0, 0), (pic, x, y))
                self.assert_touch(None, (pic, 100, -7), (pic, 100 + x, y - 7))
            self.assert_touch((wide - 1, 0), (pic, 0, 0), (pic, wide - 1, 0))
            self.assert_touch((0, high - 1), (pic, 0, 0), (pic, 0, high - 1))

    def test_far_off_from_each_other_and_both_far_off(self):
        pic = filled(64, 64, 3)
        for x, y in itertools.product((-FAR, 0, FAR), repeat=2):
            for left, top in itertools.product((-FAR, 0, FAR), repeat=2):
                wanted = (x, y) if (x, y) == (left, top) else None
                self.assert_touch(wanted, (pic, x, y), (pic, left, top))
            self.assert_touch((x, y), (pic, x, y), (pic, x - 63, y))
            self.assert_touch((x + 63, y + 1), (pic, x, y), (pic, x + 63, y + 1))
            self.assert_touch(None, (pic, x, y), (pic, x + 64, y))
            self.assert_touch(None, (pic, x, y), (pic, x, y - 64))

    def test_the_first_place_row_by_row_from_the_top(self):
        one = bits_of([[None, None, None, 1], [1, 1, None, None], [1, 1, 1, 1]])
        self.assert_touch((3, 0), (one, 0, 0), (filled(4, 4, 2), 0, 0))
        self.assert_touch((0, 1), (one, 0, 0), (filled(3, 4, 2), 0, 0))
        self.assert_touch((1, 1), (one, 0, 0), (filled(3, 4, 2), 1, 1))
        self.assert_touch((0, 2), (one, 0, 0), (filled(4, 4, 2), 0, 2))
        self.assert_touch((2, 2), (one, 0, 0), (filled(1, 9, 2), 2, -5))
        self.assert_touch((9, 8), (one, 6, 8), (one, 6, 8))

    def test_place_by_place(self):
        some = [thin(4, 3, 0), thin(3, 5, 4), thin(1, 6, 2), thin(7, 1, 5), patterned(5, 4, 3), holes(3, 3), [[0]]]
        for one, other in itertools.combinations_with_replacement(some, 2):
            for x, y in itertools.product(range(-8, 9), range(-7, 8)):
                for left, top in ((0, 0), (-FAR, FAR - 9)):
                    here, there = (one, left, top), (other, left + x, top + y)
                    self.assert_touch(place_of(here, there), at_place(here), at_place(there))

    def test_great(self):
        one, other = thin(64, 64, 1), thin(64, 64, 3)
        for x, y in ((0, 0), (1, 0), (-1, 2), (63, 63), (-63, 62), (40, -63), (5, 64), (-64, 0)):
            self.assert_touch(place_of((one, 0, 0), (other, x, y)), (bits_of(one), 0, 0), (bits_of(other), x, y))

    def test_no_row_of_bits_as_long_as_a_place(self):
        pic = filled(64, 64, 15)
        for x, y in ((FAR, 0), (-FAR, 0), (0, FAR), (FAR, -FAR)):
            self.assertLess(most_held(lambda: touch((pic, x, y), (pic, -x, -y))), LITTLE)
            self.assertLess(most_held(lambda: touch((pic, x, y), (pic, x, y))), LITTLE)
            self.assertLess(most_held(lambda: touch((pic, 0, 0), (pic, x, y))), LITTLE)


class TouchesTest(unittest.TestCase):

    def test_no_picture_and_one(self):
        self.assertEqual([], touches([]))
        self.assertEqual([], touches([(filled(3, 3, 1), 5, 5)]))

    def test_the_same_one_twice(self):
        one = (bits_of([[None, 3]]), 5, -5)
        self.assertEqual([(0, 1, 6, -5)], touches([one, one]))
        self.assertEqual([(0, 1, 6, -5), (0, 2, 6, -5), (1, 2, 6, -5)], touches([one, one, one]))
        self.assertEqual([], touches([(filled(2, 2), 0, 0)] * 3))

    def test_by_the_first_then_by_the_second(self):
        some = [(DOT, 3, 0), (filled(4, 1, 1), 0, 0), (DOT, 0, 0), (DOT, 9, 9), (filled(2, 2, 1), 2, 0)]
        wanted = [(0, 1, 3, 0), (0, 4, 3, 0), (1, 2, 0, 0), (1, 4, 2, 0)]
        self.assertEqual(wanted, touches(some))
        for told in touches(some):
            self.assertIs(tuple, type(told))

    def test_each_two(self):
        for seed in range(6):
            rows = [(thin(1 + (number + seed) % 5, 1 + number % 4, number + seed), number * 3 % 7, number * 5 % 6)
                    for number in range(12)]
            wanted = []
            for i, j in itertools.combinations(range(len(rows)), 2):
                place = place_of(rows[i], rows[j])
                if place is not None:
                    wanted.append((i, j) + place)
            self.assertEqual(wanted, touches([at_place(one) for one in rows]))

    def test_sixty(self):
        pairs = list(itertools.combinations(range(60), 2))
        self.assertEqual([(i, j, 7, 8) for i, j in pairs], touches([(filled(64, 64, 1), 7, 8)] * 60))
        row = [(filled(2, 1, 1), number, 0) for number in range(60)]
        self.assertEqual([(number, number + 1, number + 1, 0) for number in range(59)], touches(row))
        back = [(filled(2, 1, 1), -number, 0) for number in range(60)]
        self.assertEqual([(number, number + 1, -number, 0) for number in range(59)], touches(back))
        self.assertEqual([], touches([(filled(64, 64, 1), 64 * number, FAR) for number in range(60)]))

    def test_far_off(self):
        pic = filled(64, 64, 1)
        some = [(pic, FAR, 0), (pic, -FAR, 0), (pic, FAR, 63), (pic, 0, 0), (pic, 0, -FAR), (pic, -FAR, 1)]
        self.assertEqual([(0, 2, FAR, 63), (1, 5, -FAR, 1)], touches(some))
        self.assertLess(most_held(lambda: touches(some)), LITTLE)

    def test_the_list_is_left_as_it_was_and_the_one_told_is_a_new_one(self):
        for many in (0, 1, 2, 5):
            some = [(filled(3, 3, 1), number, 0) for number in range(many)]
            before = copy.deepcopy(some)
            told = touches(some)
            self.assertEqual((before, list), (some, type(told)))
            wanted = list(told)
            told.append(None)
            self.assertEqual((before, wanted), (some, touches(some)))
            kept = touches(some)
            some.clear()
            self.assertEqual(wanted, kept)


class FirstTouchTest(unittest.TestCase):

    def by_beats(self, one, other, wide, high, most):
        """The first touch, by asking for each beat where both are."""
        for beat in range(most + 1):
            place = touch((one[0],) + spot_of(one, wide, high, beat), (other[0],) + spot_of(other, wide, high, beat))
            if place is not None:
                return (beat,) + place
        return None

    def assert_first(self, wanted, one, other, wide, high, most):
        told = first_touch(one, other, wide, high, most)
        self.assertEqual((wanted, wanted), (told, first_touch(other, one, wide, high, most)))
        self.assertIs(tuple if wanted is not None else type(None), type(told))

    def refuse(self, one, other, wide, high):
        for most in (0, 1, 200):
            with self.assertRaises(NoSpot):
                first_touch(one, other, wide, high, most)
            with self.assertRaises(NoSpot):
                first_touch(other, one, wide, high, most)

    def test_at_beat_nought(self):
        for most in (0, 1, 200):
            self.assert_first((0, 2, 1), (DOT, 2, 1, 1, 1), (filled(3, 1, 5), 0, 1, -1, 0), 6, 4, most)
            self.assert_first((0, 0, 0), (filled(6, 4, 1), 0, 0, 9, 9), (filled(6, 4, 1), 0, 0, 0, 0), 6, 4, most)

    def test_at_the_most_and_one_beat_behind_it(self):
        one, other = (DOT, 0, 0, 1, 0), (DOT, 63, 0, 0, 0)
        self.assert_first((63, 63, 0), one, other, 64, 1, 63)
        self.assert_first((63, 63, 0), one, other, 64, 1, 64)
        self.assert_first((63, 63, 0), one, other, 64, 1, 200)
        self.assert_first(None, one, other, 64, 1, 62)
        self.assert_first(None, one, other, 64, 1, 0)

    def test_at_beat_two_hundred(self):
        # Along the room of 40 it is at the far wall where the beat leaves 40 by 80, along the room of 25 at the near one
        # where it leaves 0 by 50: first at beat 200.
        one, other = (DOT, 0, 0, 1, 1), (DOT, 40, 0, 0, 0)
        self.assert_first((200, 40, 0), one, other, 41, 26, 200)
        self.assert_first(None, one, other, 41, 26, 199)
        self.assert_first((30, 10, 0), (DOT, 0, 0, 1, 1), (DOT, 10, 0, 0, 0), 11, 4, 200)

    def test_no_beat_further_on_than_the_most(self):
        one, other = (DOT, 0, 0, 1, 0), (DOT, 1, 0, 0, 0)
        self.assert_first(None, one, other, 5, 5, 0)
        self.assert_first((1, 1, 0), one, other, 5, 5, 1)

    def test_never(self):
        self.assert_first(None, (DOT, 0, 0, 1, 0), (DOT, 0, 1, 1, 0), 9, 2, 200)
        self.assert_first(None, (DOT, 0, 0, 1, 0), (filled(5, 1), 0, 0, 1, 0), 9, 2, 200)
        self.assert_first(None, (DOT, 0, 0, 2, 0), (DOT, 1, 0, -2, 0), 5, 1, 200)
        self.assert_first((1, 2, 0), (DOT, 0, 0, 2, 0), (DOT, 3, 0, -1, 0), 5, 1, 200)

    def test_they_may_pass_through_one_another(self):
        self.assert_first(None, (DOT, 0, 0, 1, 0), (DOT, 1, 0, -1, 0), 2, 1, 200)

    def test_behind_a_wall(self):
        one, other = (DOT, 3, 0, 1, 0), (DOT, 1, 0, 0, 0)
        self.assert_first((4, 1, 0), one, other, 5, 1, 200)
        self.assert_first(None, one, other, 5, 1, 3)

    def test_beat_by_beat(self):
        pics = [bits_of(thin(3, 2, 1)), bits_of(thin(4, 3, 4)), DOT, filled(2, 2, 7)]
        speeds = ((0, 0), (1, 0), (-1, 2), (3, -5), (7, 7), (FAR, 1 - FAR))
        for one, other in itertools.product(pics, repeat=2):
            for (dx, dy), (ex, ey) in itertools.product(speeds, repeat=2):
                goer, peer = (one, 0, 3, dx, dy), (other, 5, 1, ex, ey)
                for most in (0, 3, 40):
                    wanted = self.by_beats(goer, peer, 10, 6, most)
                    self.assert_first(wanted, goer, peer, 10, 6, most)

    def test_no_spot_for_either(self):
        on = (filled(2, 2, 1), 0, 0, 1, 1)
        for x, y in ((-1, 0), (0, -1), (4, 0), (0, 3), (-FAR, 0), (0, FAR), (4, 3)):
            self.refuse(on, (filled(2, 2, 1), x, y, 0, 0), 5, 4)
        self.refuse(on, (filled(6, 1, 1), 0, 0, 0, 0), 5, 4)
        self.refuse(on, (filled(1, 5, 1), 0, 0, 0, 0), 5, 4)
        self.refuse((filled(2, 2, 1), 4, 0, 0, 0), (filled(2, 2, 1), -1, 0, 0, 0), 5, 4)

    def test_no_spot_also_where_they_would_touch(self):
        great = (filled(5, 4, 1), 0, 0, 0, 0)
        for x, y in ((-1, 0), (0, -1), (4, 0), (0, 3)):
            self.refuse(great, (filled(2, 2, 1), x, y, 0, 0), 5, 4)
        self.refuse((DOT, 5, 0, 0, 0), (DOT, 5, 0, 0, 0), 5, 4)

    def test_the_goers_are_left_as_they_were(self):
        one, other = (bits_of(thin(3, 3, 2)), 0, 0, 1, 2), (bits_of(thin(2, 4, 5)), 4, 2, -1, 1)
        before = copy.deepcopy((one, other))
        told = first_touch(one, other, 9, 9, 200)
        self.assertEqual((before, told), ((one, other), first_touch(one, other, 9, 9, 200)))

    def test_great(self):
        one, other = (filled(64, 64, 1), 0, 0, FAR, FAR), (filled(64, 64), 0, 0, -FAR, -FAR)
        self.assert_first(None, one, other, 64, 64, 200)
        self.assertLess(most_held(lambda: first_touch(one, other, 64, 64, 200)), LITTLE)


if __name__ == "__main__":
    unittest.main()
