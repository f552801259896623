"""What a whole number is [1]."""

import unittest

from glowboard.wholes import is_whole

from helper import MOST, no_numbers


class IsWholeTest(unittest.TestCase):

    def test_whole_numbers_on_both_sides_of_nought(self):
        for number in (0, 1, 2, 9, 15, 16, 64, 4095, 4096, 10 ** 9, 2 ** 31, 2 ** 63, 2 ** 64):
            self.assertIs(True, is_whole(number), number)
            self.assertIs(True, is_whole(-number), -number)

    def test_whole_numbers_of_many_figures(self):
        for number in (10 ** 59, MOST, 10 ** 119, 10 ** 120 - 1):
            self.assertIs(True, is_whole(number), number)
            self.assertIs(True, is_whole(-number), -number)

    def test_truths_are_none(self):
        self.assertIs(False, is_whole(True))
        self.assertIs(False, is_whole(False))

    def test_other_plain_things_are_none(self):
        for thing in no_numbers():
            self.assertIs(False, is_whole(thing), thing)

    def test_what_is_asked_of_stays_as_it_was(self):
        for thing, same in zip(no_numbers(), no_numbers()):
            is_whole(thing)
            self.assertEqual(same, thing)


if __name__ == "__main__":
    unittest.main()
