"""Ways along one axis, and goers on a board [1, 2, 20, 21]."""

import copy
import itertools
import unittest

from glowboard.errors import GlowError, NoSpot
from glowboard.pictures import filled
from glowboard.ways import bounced, spot_of

from helper import FAR, MOST, bits_of, most_held, patterned

LITTLE = 100000


def walked(start, speed, room, beat):
    """Where a way is, step by step: each step goes one on, and turns round at a wall."""
    at, way = start, (1 if speed > 0 else -1)
    for step in range(abs(speed) * beat if room > 0 else 0):
        if not 0 <= at + way <= room:
            way = -way
        at = at + way
    return at


def told_by_far(start, speed, room, beat):
    """Where a way is, told as the document tells it, in other words: how far it is from the nearest even wall."""
    far = start + beat * speed
    return min(abs(far - 2 * room * turn) for turn in (far // (2 * room), far // (2 * room) + 1))


def starts_of(wide, high, pic):
    """The greatest x and y at which a picture lies on a board with all of it."""
    return wide - pic[0], high - pic[1]


class BouncedTest(unittest.TestCase):

    def test_written_out(self):
        self.assertEqual([0, 1, 2, 3, 2, 1, 0, 1], [bounced(0, 1, 3, beat) for beat in range(8)])
        self.assertEqual([2, 1, 0, 1, 2, 3, 2, 1], [bounced(2, -1, 3, beat) for beat in range(8)])
        self.assertEqual([1, 3, 5, 3, 1, 1, 3], [bounced(1, 2, 5, beat) for beat in range(7)])
        self.assertEqual([4, 1, 2, 5, 2, 1], [bounced(4, -3, 5, beat) for beat in range(6)])

    def test_no_room(self):
        for speed in (0, 1, -1, 7, FAR, -FAR):
            for beat in (0, 1, 2, 99, MOST):
                self.assertEqual(0, bounced(0, speed, 0, beat))

    def test_room_of_one(self):
        for speed in (1, -1, 3, -7, FAR - 1, 1 - FAR):
            self.assertEqual([0, 1, 0, 1], [bounced(0, speed, 1, beat) for beat in range(4)])
            self.assertEqual([1, 0, 1, 0], [bounced(1, speed, 1, beat) for beat in range(4)])
            self.assertEqual((1, 0), (bounced(0, speed, 1, MOST), bounced(1, speed, 1, MOST)))
        for speed in (0, 2, -2, FAR, -FAR):
            for beat in (0, 1, 2, MOST):
                self.assertEqual((0, 1), (bounced(0, speed, 1, beat), bounced(1, speed, 1, beat)))

    def test_room_as_great_as_can_be(self):
        self.assertEqual([0, FAR, 0, FAR], [bounced(0, FAR, FAR, beat) for beat in range(4)])
        self.assertEqual([0, FAR, 0, FAR], [bounced(0, -FAR, FAR, beat) for beat in range(4)])
        self.assertEqual([FAR, 0, FAR, 0], [bounced(FAR, FAR, FAR, beat) for beat in range(4)])
        self.assertEqual([FAR, FAR - 1, FAR - 2], [bounced(FAR, 1, FAR, beat) for beat in range(3)])
        self.assertEqual([1, 0, 1, 2], [bounced(1, -1, FAR, beat) for beat in range(4)])
        self.assertEqual([FAR - 1, FAR, FAR - 1], [bounced(0, 1, FAR, beat) for beat in range(FAR - 1, FAR + 2)])
        self.assertEqual([1, 0, 1], [bounced(0, 1, FAR, beat) for beat in range(2 * FAR - 1, 2 * FAR + 2)])

    def test_without_speed_it_stays(self):
        for room in (1, 2, 63, FAR):
            for start in (0, 1, room // 2, room):
                for beat in (0, 1, 77, MOST):
                    self.assertEqual(start, bounced(start, 0, room, beat))

    def test_at_beat_nought_it_is_at_its_start(self):
        for room in (1, 2, 5, FAR):
            for start in (0, 1, room - 1, room):
                for speed in (-FAR, -1, 0, 1, room, 3 * room, FAR):
                    self.assertEqual(start, bounced(start, speed, room, 0))

    def test_it_just_turns_round_at_either_wall(self):
        for room in (1, 2, 7, 63):
            for many in range(4):
                at_far, at_near = (2 * many + 1) * room, 2 * many * room
                self.assertEqual((room, 0), (bounced(0, 1, room, at_far), bounced(0, 1, room, at_near)))
                self.assertEqual((room - 1, 1), (bounced(0, 1, room, at_far + 1), bounced(0, 1, room, at_near + 1)))
                self.assertEqual(room - 1, bounced(0, 1, room, at_far - 1))
                self.assertEqual((0, room), (bounced(room, -1, room, at_far), bounced(room, -1, room, at_near)))
                behind = (bounced(room, 1, room, at_far + 1), bounced(room, 1, room, at_near + 1))
                self.assertEqual((1, room - 1), behind)

    def test_speeds_greater_than_the_room(self):
        self.assertEqual([0, 2, 2, 0, 2], [bounced(0, 4, 3, beat) for beat in range(5)])
        self.assertEqual([1, 1, 1, 1], [bounced(1, 8, 4, beat) for beat in range(4)])
        self.assertEqual([1, 3, 1, 3], [bounced(1, -4, 4, beat) for beat in range(4)])
        self.assertEqual([2, 2, 2, 2], [bounced(2, -FAR, 10, beat) for beat in range(4)])

    def test_step_by_step(self):
        for room in range(7):
            for start, speed, beat in itertools.product(range(room + 1), range(-16, 17), range(9)):
                told = bounced(start, speed, room, beat)
                self.assertEqual(walked(start, speed, room, beat), told, (start, speed, room, beat))

    def test_far(self):
        beats = (0, 1, 2, 3, 10 ** 9, 10 ** 30 + 7, 10 ** 59, MOST - 1, MOST)
        speeds = (-FAR, 1 - FAR, -12345, -1, 0, 1, 2, 98765, FAR - 1, FAR)
        for room in (1, 2, 3, 63, 1000, FAR - 1, FAR):
            for start in sorted({0, 1, room // 3, room - 1, room}):
                for speed, beat in itertools.product(speeds, beats):
                    told = bounced(start, speed, room, beat)
                    self.assertIs(int, type(told))
                    self.assertEqual(told_by_far(start, speed, room, beat), told, (start, speed, room, beat))

    def test_a_beat_of_sixty_figures(self):
        # 10 ** 60 - 1 leaves 9 by 10, and 39 by 40.
        self.assertEqual((1, 1), (bounced(0, 1, 5, MOST), bounced(0, -1, 5, MOST)))
        self.assertEqual((0, 2), (bounced(1, 1, 20, MOST), bounced(1, -1, 20, MOST)))
        self.assertEqual((20, 18), (bounced(1, 1, 20, MOST - 20), bounced(1, -1, 20, MOST - 20)))
        self.assertEqual(FAR, bounced(0, FAR, FAR, MOST))
        self.assertEqual(0, bounced(FAR, -FAR, FAR, MOST))
        self.assertLess(most_held(lambda: bounced(FAR, -FAR, FAR, MOST)), LITTLE)


class SpotOfTest(unittest.TestCase):

    def assert_spot(self, wanted, goer, wide, high, beat):
        told = spot_of(goer, wide, high, beat)
        self.assertEqual((wanted, tuple), (told, type(told)))

    def refuse(self, goer, wide, high):
        for beat in (0, 1, 2, 17, MOST):
            with self.assertRaises(NoSpot) as caught:
                spot_of(goer, wide, high, beat)
            self.assertIsInstance(caught.exception, GlowError)

    def test_written_out(self):
        goer = (filled(2, 1, 3), 0, 3, 1, -2)
        wanted = [(0, 3), (1, 1), (2, 1), (3, 3), (2, 1), (1, 1), (0, 3)]
        self.assertEqual(wanted, [spot_of(goer, 5, 4, beat) for beat in range(7)])
        self.assert_spot((0, 3), goer, 5, 4, 0)

    def test_each_axis_has_its_own_way(self):
        for pic, wide, high in ((filled(3, 2, 1), 9, 5), (filled(1, 1), 2, 64), (filled(10, 4, 0), 64, 5)):
            across, down = starts_of(wide, high, pic)
            for x, y in itertools.product(sorted({0, 1, across}), sorted({0, 1, down})):
                for dx, dy in itertools.product((-FAR, -3, 0, 1, 50, FAR), (-FAR, -1, 0, 7, FAR)):
                    for beat in (0, 1, 2, 1000, MOST):
                        wanted = (bounced(x, dx, across, beat), bounced(y, dy, down, beat))
                        self.assert_spot(wanted, (pic, x, y, dx, dy), wide, high, beat)

    def test_it_always_lies_on_the_board(self):
        pic = filled(5, 7, 2)
        for dx, dy, beat in itertools.product((-9, 1, 4), (-2, 0, 13), range(60)):
            x, y = spot_of((pic, 3, 1, dx, dy), 12, 9, beat)
            self.assertTrue(0 <= x <= 7 and 0 <= y <= 2, (x, y))

    def test_as_wide_and_as_high_as_the_board(self):
        for wide, high in ((1, 1), (5, 3), (64, 64)):
            for beat in (0, 1, 2, MOST):
                self.assert_spot((0, 0), (filled(wide, high, 1), 0, 0, FAR, -FAR), wide, high, beat)
                self.assert_spot((0, 0), (filled(wide, high), 0, 0, 1, 1), wide, high, beat)
        for beat in range(5):
            self.assert_spot((0, (0, 1, 2, 1, 0)[beat]), (filled(5, 1, 1), 0, 0, 7, 1), 5, 3, beat)
            self.assert_spot(((4, 3, 2, 1, 0)[beat], 0), (filled(1, 3, 1), 4, 0, -1, 7), 5, 3, beat)
        for x, y in ((1, 0), (-1, 0), (0, 1), (0, -1)):
            self.refuse((filled(5, 3, 1), x, y, 0, 0), 5, 3)

    def test_wider_or_higher_than_the_board(self):
        for wide, high in ((6, 3), (5, 4), (6, 4), (64, 1), (1, 64), (64, 64)):
            for x, y in ((0, 0), (-1, 0), (0, -1), (-1, -1), (1, 1), (5 - wide, 3 - high)):
                self.refuse((filled(wide, high, 1), x, y, 1, 1), 5, 3)
                self.refuse((filled(wide, high), x, y, 0, 0), 5, 3)

    def test_off_by_one_at_each_side_and_far_off(self):
        for pic in (filled(2, 3, 1), filled(1, 1), bits_of([[None, 4]])):
            across, down = starts_of(6, 7, pic)
            for x, y in itertools.product((-FAR, -1, 0, across, across + 1, FAR), (-FAR, -1, 0, down, down + 1, FAR)):
                for dx, dy in ((0, 0), (1, -1), (-x, -y), (FAR, FAR)):
                    if 0 <= x <= across and 0 <= y <= down:
                        self.assert_spot((x, y), (pic, x, y, dx, dy), 6, 7, 0)
                    else:
                        self.refuse((pic, x, y, dx, dy), 6, 7)

    def test_holes_of_a_picture_lie_on_the_board_too(self):
        framed = bits_of([[None, None, None], [None, 1, None], [None, None, None]])
        self.assert_spot((0, 0), (framed, 0, 0, 0, 0), 3, 3, 9)
        self.refuse((framed, -1, 0, 0, 0), 3, 3)
        self.refuse((framed, 0, 1, 0, 0), 3, 3)
        self.refuse((framed, 0, 0, 0, 0), 2, 3)
        self.refuse((filled(3, 3), 1, 1, 0, 0), 3, 3)

    def test_the_goer_is_left_as_it_was(self):
        goer = (bits_of(patterned(4, 3)), 1, 2, -3, 4)
        before = copy.deepcopy(goer)
        first = spot_of(goer, 9, 9, 11)
        self.refuse(goer, 3, 9)
        self.assertEqual((before, first), (goer, spot_of(goer, 9, 9, 11)))

    def test_far_off_takes_little(self):
        goer = (filled(64, 64, 15), 0, 0, FAR, -FAR)
        self.assertLess(most_held(lambda: spot_of(goer, 64, 64, MOST)), LITTLE)
        self.assertLess(most_held(lambda: spot_of((filled(1, 1), 63, 0, FAR, -FAR), 64, 64, MOST)), LITTLE)


if __name__ == "__main__":
    unittest.main()
