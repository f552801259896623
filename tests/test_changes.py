"""Changes by swaps, by steps and chained; pictures mapped and ruled [1, 10]."""

import unittest

from glowboard.changes import by_steps, by_swaps, chained, mapped, ruled
from glowboard.pictures import filled, is_picture

from helper import MOST, SIDES, bits_of, some_rows

COLOURS = range(16)


def told_by(change):
    """What a change tells for each colour."""
    return [change(colour) for colour in COLOURS]


class Noting:
    """A change or a rule that notes what it was asked for."""

    def __init__(self, tell):
        self.tell = tell
        self.asked = []

    def change(self, colour):
        self.asked.append(colour)
        return self.tell(colour)

    def rule(self, x, y):
        self.asked.append((x, y))
        return self.tell(x, y)


class BySwapsTest(unittest.TestCase):

    def test_keys_become_what_is_told_and_others_stay(self):
        told = told_by(by_swaps({0: 15, 15: 0, 3: None, 7: 7, 4: 5, 5: 4}))
        self.assertEqual([15, 1, 2, None, 5, 4, 6, 7, 8, 9, 10, 11, 12, 13, 14, 0], told)

    def test_no_swaps(self):
        self.assertEqual(list(COLOURS), told_by(by_swaps({})))

    def test_each_colour_a_key(self):
        self.assertEqual(list(COLOURS)[::-1], told_by(by_swaps({colour: 15 - colour for colour in COLOURS})))
        self.assertEqual([None] * 16, told_by(by_swaps({colour: None for colour in COLOURS})))
        self.assertEqual([0] * 16, told_by(by_swaps({colour: 0 for colour in COLOURS})))

    def test_one_key_at_a_time(self):
        for key in COLOURS:
            for cell in (None, 0, 15, key):
                told = told_by(by_swaps({key: cell}))
                self.assertEqual([cell if colour == key else colour for colour in COLOURS], told)

    def test_swaps_are_not_chained(self):
        self.assertEqual([1, 2, None, 3], told_by(by_swaps({0: 1, 1: 2, 2: None}))[:4])

    def test_the_dict_is_left_as_it_was_and_kept_as_a_copy(self):
        swaps = {1: 2, 3: None}
        change = by_swaps(swaps)
        before = told_by(change)
        self.assertEqual({1: 2, 3: None}, swaps)
        swaps[1] = 9
        swaps[5] = None
        del swaps[3]
        self.assertEqual(before, told_by(change))
        swaps.clear()
        self.assertEqual(before, told_by(change))
        self.assertEqual((2, None, 5), (change(1), change(3), change(5)))


class ByStepsTest(unittest.TestCase):

    def test_written_out(self):
        self.assertEqual(list(COLOURS), told_by(by_steps(0)))
        self.assertEqual([1, 2, 3, 4, 5, 6, 7, 8, 9, 10, 11, 12, 13, 14, 15, 0], told_by(by_steps(1)))
        self.assertEqual([15, 0, 1, 2, 3, 4, 5, 6, 7, 8, 9, 10, 11, 12, 13, 14], told_by(by_steps(-1)))

    def test_steps_round_the_sixteen(self):
        for by in range(-50, 51):
            told = told_by(by_steps(by))
            self.assertEqual([(colour + by + 64) % 16 for colour in COLOURS], told)

    def test_steps_of_sixty_figures(self):
        # 10 ** 60 is so many times 16, so one less is as 15 steps on.
        for by, same in ((MOST, 15), (-MOST, 1), (10 ** 59 + 3, 3), (-(10 ** 59) - 3, 13)):
            self.assertEqual([(colour + same) % 16 for colour in COLOURS], told_by(by_steps(by)))

    def test_kinds(self):
        for by in (0, -7, MOST):
            for cell in told_by(by_steps(by)):
                self.assertIs(int, type(cell))


class ChainedTest(unittest.TestCase):

    def test_no_change(self):
        self.assertEqual(list(COLOURS), told_by(chained([])))

    def test_one_change(self):
        swaps = by_swaps({0: None, 4: 11})
        self.assertEqual(told_by(swaps), told_by(chained([swaps])))
        self.assertEqual(told_by(by_steps(-3)), told_by(chained([by_steps(-3)])))

    def test_in_their_order(self):
        swaps, steps = by_swaps({1: 9, 2: 3}), by_steps(1)
        self.assertEqual([1, 10, 4, 4], told_by(chained([swaps, steps]))[:4])
        self.assertEqual([9, 3, 3, 4], told_by(chained([steps, swaps]))[:4])

    def test_several(self):
        changes = [by_steps(5), by_swaps({6: 0, 7: None}), by_steps(-2), lambda colour: colour // 2]
        for colour in COLOURS:
            told = (colour + 5) % 16
            told = {6: 0, 7: None}.get(told, told)
            told = None if told is None else (told - 2) % 16 // 2
            self.assertEqual(told, chained(changes)(colour))

    def test_sixty(self):
        self.assertEqual([(colour + 60) % 16 for colour in COLOURS], told_by(chained([by_steps(1)] * 60)))

    def test_behind_none_no_later_one_is_asked(self):
        for ahead in ([], [by_steps(3)], [by_swaps({}), by_steps(-1)]):
            later = Noting(lambda colour: 7)
            change = chained(ahead + [lambda colour: None, later.change])
            self.assertEqual([None] * 16, told_by(change))
            self.assertEqual([], later.asked)

    def test_none_for_some_colours(self):
        later = Noting(lambda colour: 15 - colour)
        change = chained([by_swaps({0: None, 5: None}), later.change])
        self.assertEqual([None if colour in (0, 5) else 15 - colour for colour in COLOURS], told_by(change))
        self.assertEqual([colour for colour in COLOURS if colour not in (0, 5)], sorted(set(later.asked)))

    def test_colour_nought_is_no_hole(self):
        self.assertEqual([4] * 16, told_by(chained([lambda colour: 0, by_swaps({0: 4})])))

    def test_the_last_one_tells_none(self):
        self.assertEqual([None] + [1] * 15, told_by(chained([lambda colour: min(colour, 1), by_swaps({0: None})])))

    def test_chains_in_chains(self):
        inner = chained([by_steps(1), by_swaps({3: None})])
        self.assertEqual([2, None, None, 5], told_by(chained([inner, inner]))[:4])

    def test_the_list_is_left_as_it_was_and_kept_as_a_copy(self):
        swaps, steps = by_swaps({1: None}), by_steps(2)
        changes = [swaps, steps]
        change = chained(changes)
        before = told_by(change)
        self.assertEqual([swaps, steps], changes)
        changes[0] = by_steps(5)
        changes.append(lambda colour: None)
        self.assertEqual(before, told_by(change))
        changes.clear()
        self.assertEqual(before, told_by(change))
        self.assertEqual([2, None, 4], before[:3])


class MappedTest(unittest.TestCase):

    def test_written_out(self):
        pic = bits_of([[0, None, 1], [15, 2, None]])
        self.assertEqual(bits_of([[4, None, None], [15, 2, None]]), mapped(pic, by_swaps({0: 4, 1: None})))
        self.assertEqual(bits_of([[1, None, 2], [0, 3, None]]), mapped(pic, by_steps(1)))
        self.assertEqual(bits_of([[5, None, 2], [0, 3, None]]), mapped(pic, chained([by_swaps({0: 4}), by_steps(1)])))

    def test_cell_by_cell(self):
        changes = (by_swaps({}), by_swaps({0: None, 3: 0, 15: 1}), by_steps(-5), by_steps(MOST),
                   lambda colour: None, lambda colour: 0, lambda colour: colour if colour % 2 == 0 else None)
        for rows in some_rows():
            for change in changes:
                told = [[None if cell is None else change(cell) for cell in row] for row in rows]
                self.assertEqual(bits_of(told), mapped(bits_of(rows), change))
                self.assertIs(True, is_picture(mapped(bits_of(rows), change)))

    def test_holes_stay_holes(self):
        for wide, high in SIDES:
            self.assertEqual(filled(wide, high), mapped(filled(wide, high), lambda colour: 7))

    def test_all_becomes_holes(self):
        for wide, high in SIDES:
            self.assertEqual(filled(wide, high), mapped(filled(wide, high, 15), lambda colour: None))

    def test_asked_for_the_colours_of_the_picture_alone(self):
        for rows in some_rows():
            noting = Noting(lambda colour: 15 - colour)
            mapped(bits_of(rows), noting.change)
            here = {cell for row in rows for cell in row if cell is not None}
            self.assertEqual(here, set(noting.asked))
            self.assertEqual({int} if here else set(), {type(colour) for colour in noting.asked})


class RuledTest(unittest.TestCase):

    def test_written_out(self):
        self.assertEqual(bits_of([[0, 1, 2], [4, 5, 6]]), ruled(3, 2, lambda x, y: x + 4 * y))
        self.assertEqual(bits_of([[None, 0]]), ruled(2, 1, lambda x, y: None if x == 0 else 0))
        self.assertEqual(bits_of([[9]]), ruled(1, 1, lambda x, y: 9))

    def test_cell_by_cell(self):
        for rows in some_rows():
            told = ruled(len(rows[0]), len(rows), lambda x, y: rows[y][x])
            self.assertEqual(bits_of(rows), told)
            self.assertIs(True, is_picture(told))

    def test_nothing_is_refused_for_sides_somewhat_beyond(self):
        for wide, high in ((65, 1), (1, 65), (66, 70)):
            ruled(wide, high, lambda x, y: 3)

    def test_asked_for_the_places_of_the_cells_alone(self):
        for wide, high in SIDES:
            noting = Noting(lambda x, y: (x + y) % 16)
            ruled(wide, high, noting.rule)
            self.assertEqual({(x, y) for x in range(wide) for y in range(high)}, set(noting.asked))


if __name__ == "__main__":
    unittest.main()
