"""Tones, tables and the nearest colour [1, 6]."""

import unittest

from glowboard.colours import blended, far_from, nearest, parts_of, table_of, tone_of
from glowboard.errors import GlowError, NoTable

from helper import MOST, no_numbers

SOME = tuple(range(0, 4096, 61)) + (1, 15, 16, 255, 256, 0x777, 0x888, 0xF00, 0x0F0, 0x00F, 4094, 4095)
GREYS = [0x111 * part for part in range(16)]


def split(tone):
    """The parts of a tone, read from its three figures."""
    return tuple(int(sign, 16) for sign in f"{tone:03x}")


def distance(one, other):
    return sum((part - peer) ** 2 for part, peer in zip(split(one), split(other)))


class TonesTest(unittest.TestCase):

    def test_bounds(self):
        self.assertEqual(0, tone_of(0, 0, 0))
        self.assertEqual(4095, tone_of(15, 15, 15))
        self.assertEqual((0, 0, 0), parts_of(0))
        self.assertEqual((15, 15, 15), parts_of(4095))

    def test_red_green_and_blue_in_their_places(self):
        self.assertEqual((3840, 240, 15), (tone_of(15, 0, 0), tone_of(0, 15, 0), tone_of(0, 0, 15)))
        self.assertEqual((256, 16, 1), (tone_of(1, 0, 0), tone_of(0, 1, 0), tone_of(0, 0, 1)))
        self.assertEqual(0x1A7, tone_of(1, 10, 7))
        self.assertEqual((1, 10, 7), parts_of(0x1A7))

    def test_one_behind_the_other(self):
        for tone in range(4096):
            parts = parts_of(tone)
            self.assertIs(tuple, type(parts))
            self.assertEqual(split(tone), parts)
            self.assertEqual(tone, tone_of(parts[0], parts[1], parts[2]))


class TableOfTest(unittest.TestCase):

    def test_sixteen_tones(self):
        for tones in (GREYS, [0] * 16, [4095] * 16, list(range(16)), list(range(4080, 4096)), GREYS[::-1]):
            table = table_of(tones)
            self.assertIs(tuple, type(table))
            self.assertEqual(tuple(tones), table)

    def assert_refused(self, tones, same):
        with self.assertRaises(NoTable) as caught:
            table_of(tones)
        self.assertIs(NoTable, type(caught.exception))
        self.assertIsInstance(caught.exception, GlowError)
        self.assertEqual(same, tones)

    def test_another_many(self):
        for many in (0, 1, 15, 17, 32, 60):
            self.assert_refused([7] * many, [7] * many)

    def test_no_list(self):
        self.assert_refused(tuple(GREYS), tuple(GREYS))
        self.assert_refused(table_of(GREYS), tuple(GREYS))
        self.assert_refused({tone: tone for tone in GREYS}, {tone: tone for tone in GREYS})
        self.assert_refused("0123456789abcdef", "0123456789abcdef")
        self.assert_refused(16, 16)
        for thing, same in zip(no_numbers(), no_numbers()):
            self.assert_refused(thing, same)

    def test_a_thing_that_is_no_tone(self):
        others = no_numbers() + [-1, 4096, 4097, -4095, MOST, -MOST]
        for thing in others:
            for at in (0, 7, 15):
                tones = list(GREYS)
                tones[at] = thing
                self.assert_refused(tones, list(tones))

    def test_a_thing_that_is_no_tone_at_each_place(self):
        for at in range(16):
            self.assert_refused(GREYS[:at] + [None] + GREYS[at + 1:], GREYS[:at] + [None] + GREYS[at + 1:])

    def test_tones_are_left_as_they_were_and_kept_as_a_copy(self):
        tones = list(GREYS)
        table = table_of(tones)
        self.assertEqual(GREYS, tones)
        tones[3] = 0
        tones.append(9)
        self.assertEqual(tuple(GREYS), table)


class FarFromTest(unittest.TestCase):

    def test_written_out(self):
        self.assertEqual(0, far_from(0, 0))
        self.assertEqual(675, far_from(0, 4095))
        self.assertEqual(225, far_from(0xF00, 0))
        self.assertEqual(225, far_from(0, 0x0F0))
        self.assertEqual(225, far_from(0x00F, 0))
        self.assertEqual(1 + 4 + 9, far_from(0x123, 0x246))
        self.assertEqual(8, far_from(0x123, 0x321))
        self.assertEqual(1 + 225, far_from(0x00F, 0x010))

    def test_both_ways_round(self):
        for one in SOME:
            for other in SOME:
                self.assertEqual(distance(one, other), far_from(one, other))
                self.assertEqual(far_from(one, other), far_from(other, one))

    def test_nought_just_for_the_same(self):
        for tone in range(4096):
            self.assertEqual(0, far_from(tone, tone))
            self.assertEqual(tone == 0x777, far_from(tone, 0x777) == 0)


class NearestTest(unittest.TestCase):

    def test_a_tone_of_the_table(self):
        table = table_of(GREYS)
        for colour in range(16):
            self.assertEqual(colour, nearest(table, GREYS[colour]))
            self.assertEqual(15 - colour, nearest(table_of(GREYS[::-1]), GREYS[colour]))

    def test_of_several_equally_far_the_least_colour(self):
        self.assertEqual(0, nearest(table_of([5] * 16), 5))
        self.assertEqual(0, nearest(table_of([5] * 16), 4095))
        self.assertEqual(3, nearest(table_of([4095] * 3 + [0] * 13), 0))
        self.assertEqual(14, nearest(table_of([4095] * 14 + [0] * 2), 0))
        self.assertEqual(0, nearest(table_of([0x400, 0x600] * 8), 0x500))
        self.assertEqual(0, nearest(table_of([0x600, 0x400] * 8), 0x500))
        self.assertEqual(2, nearest(table_of([0xFFF, 0xFFF, 0x050, 0x500, 0x005] + [0xFFF] * 11), 0))

    def test_last_colour(self):
        self.assertEqual(15, nearest(table_of([4095] * 15 + [0]), 0))
        self.assertEqual(15, nearest(table_of([4095] * 15 + [4094]), 0))

    def test_not_by_the_difference_of_the_tones(self):
        table = table_of([0x00F, 0x100] + [0xFFF] * 14)
        self.assertEqual(1, nearest(table, 0))
        table = table_of([0x0FF, 0x211] + [0xFFF] * 14)
        self.assertEqual(1, nearest(table, 0x100))

    def test_not_by_the_sum_of_the_differences(self):
        self.assertEqual(1, nearest(table_of([0x004, 0x222] + [0xFFF] * 14), 0))

    def test_many(self):
        tables = (GREYS, [tone * 251 % 4096 for tone in range(16)], [tone * 37 % 7 * 300 for tone in range(16)])
        for tones in tables:
            for tone in SOME:
                far = [distance(each, tone) for each in tones]
                self.assertEqual(far.index(min(far)), nearest(table_of(tones), tone))


class BlendedTest(unittest.TestCase):

    def test_even_sums(self):
        self.assertEqual(0x222, blended(0x111, 0x333))
        self.assertEqual(0x246, blended(0x13C, 0x350))

    def test_odd_sums_are_rounded_down_part_by_part(self):
        self.assertEqual(0x111, blended(0x111, 0x222))
        self.assertEqual(0xEEE, blended(0xFFF, 0xEEE))
        self.assertEqual(0x777, blended(0, 0xFFF))
        self.assertEqual(0x007, blended(0, 0x10F))
        self.assertEqual(0x070, blended(0x100, 0x0F0))
        self.assertEqual(0, blended(0x100, 0x011))

    def test_both_ways_round(self):
        for one in SOME:
            self.assertEqual(one, blended(one, one))
            for other in SOME:
                halves = [(part + peer) // 2 for part, peer in zip(split(one), split(other))]
                self.assertEqual(int("".join(f"{half:x}" for half in halves), 16), blended(one, other))
                self.assertEqual(blended(one, other), blended(other, one))


if __name__ == "__main__":
    unittest.main()
