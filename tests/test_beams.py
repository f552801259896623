"""What the beam reads of a pile, boards beamed, and beams with their turns [1, 2, 11, 23, 25]."""

import copy
import itertools
import unittest

from glowboard.beams import Beam, beamed, lacking
from glowboard.painting import painted
from glowboard.pictures import filled, is_picture

from helper import (
    FAR, bits_of, cell_at, holes, is_over, most_held, patterned, pile_of, some_layers, uppermost)

LITTLE = 400000
MOSTS = (0, 1, 2, 3, 5, 60)
DOT = filled(1, 1, 0)


def read_in_row(layers, most, y):
    """The numbers of those that the beam reads in a row: those that fewer than so many of the row are over."""
    ranks = [layer[0] for layer in layers]
    on_row = [number for number, layer in enumerate(layers) if 0 <= y - layer[3] < len(layer[1])]
    return [number for number in on_row if sum(is_over(ranks, other, number) for other in on_row) < most]


def what_lacks(layers, high, most):
    """What lacks, by asking for each row and each layer."""
    told = []
    for y in range(high):
        read = read_in_row(layers, most, y)
        told.extend((y, number) for number, layer in enumerate(layers)
                    if layer[3] <= y <= layer[3] + len(layer[1]) - 1 and number not in read)
    return told


def rows_beamed(rows, layers, most):
    """The rows of a board beamed, cell by cell."""
    told = []
    for y, row in enumerate(rows):
        read = [layers[number] for number in read_in_row(layers, most, y)]
        tops = [uppermost(read, x, y) for x in range(len(row))]
        told.append([cell if top is None else cell_at(read[top][1], x - read[top][2], y - read[top][3])
                     for x, (cell, top) in enumerate(zip(row, tops))])
    return told


def all_layers():
    """Layers of many sorts, for boards of a few rows."""
    yield []
    for seed in range(10):
        yield some_layers(seed)
    rows = patterned(3, 4, 2)
    for y in (-FAR, -5, -4, -3, -1, 0, 1, 4, 5, 6, FAR):
        for x in (-FAR, -3, 0, 2, 7, FAR):
            yield [(1, rows, x, y)]
            yield [(1, [[5] * 9] * 9, -1, -1), (1, rows, x, y), (0, [[6] * 9] * 9, 0, 0), (1, [[7]], 1, 1)]
    yield [(number * 7 % 4, patterned(4, 3, number), number % 5 - 2, number % 7 - 2) for number in range(60)]


class LackingTest(unittest.TestCase):

    def test_no_layer(self):
        for high, most in itertools.product((1, 5, 64), MOSTS):
            self.assertEqual([], lacking([], high, most))

    def test_written_out(self):
        pile = [(2, filled(1, 2, 1), 0, 0), (1, filled(1, 3, 2), 5, 0), (2, filled(1, 1, 3), 9, 1)]
        self.assertEqual([(0, 0), (0, 1), (1, 0), (1, 1), (1, 2), (2, 1)], lacking(pile, 4, 0))
        self.assertEqual([(0, 1), (1, 0), (1, 1)], lacking(pile, 4, 1))
        self.assertEqual([(1, 1)], lacking(pile, 4, 2))
        self.assertEqual([], lacking(pile, 4, 3))
        self.assertEqual([], lacking(pile, 4, 60))
        self.assertEqual([(0, 1)], lacking(pile, 1, 1))
        for told in lacking(pile, 4, 0):
            self.assertIs(tuple, type(told))

    def test_ranks_alike_the_later_one_is_read(self):
        pile = [(5, DOT, number, 0) for number in range(4)]
        self.assertEqual([(0, 0), (0, 1), (0, 2)], lacking(pile, 1, 1))
        self.assertEqual([(0, 0)], lacking(pile, 1, 3))
        self.assertEqual([], lacking(pile, 1, 4))

    def test_ranks_unlike_the_greater_one_is_read(self):
        pile = [(rank, DOT, 0, 0) for rank in (3, -FAR, FAR, 0)]
        self.assertEqual([(0, 0), (0, 1), (0, 3)], lacking(pile, 1, 1))
        self.assertEqual([(0, 1), (0, 3)], lacking(pile, 1, 2))
        self.assertEqual([(0, 1)], lacking(pile, 1, 3))

    def test_by_rows_then_by_numbers(self):
        pile = [(rank, filled(1, 3, 1), 0, 0) for rank in (1, 4, 0, 3, 2)]
        self.assertEqual([(y, number) for y in range(3) for number in (0, 2, 4)], lacking(pile, 3, 2))

    def test_across_the_top_and_the_bottom_and_off_the_board(self):
        tall = filled(1, 3, 1)
        self.assertEqual([(0, 0)], lacking([(0, tall, 0, -2)], 4, 0))
        self.assertEqual([], lacking([(0, tall, 0, -3)], 4, 0))
        self.assertEqual([(3, 0)], lacking([(0, tall, 0, 3)], 4, 0))
        self.assertEqual([], lacking([(0, tall, 0, 4)], 4, 0))
        self.assertEqual([(y, 0) for y in range(4)], lacking([(0, filled(1, 64, 1), 0, -30)], 4, 0))
        for y in (-FAR, FAR):
            self.assertEqual([], lacking([(0, filled(64, 64, 1), 0, y)], 64, 0))

    def test_far_to_the_left_or_right_it_is_on_its_rows(self):
        for x in (-FAR, -64, -1, 5, 64, FAR):
            pile = [(0, filled(1, 1, 1), 0, 2), (1, filled(1, 2, 2), x, 1)]
            self.assertEqual([(2, 0)], lacking(pile, 5, 1))
            self.assertEqual([(1, 1), (2, 0), (2, 1)], lacking(pile, 5, 0))

    def test_holes_alone_are_read_as_well(self):
        pile = [(0, filled(3, 3, 1), 0, 0), (1, filled(3, 2), 0, 1)]
        self.assertEqual([(1, 0), (2, 0)], lacking(pile, 4, 1))
        self.assertEqual([(0, 0), (1, 0), (1, 1), (2, 0), (2, 1)], lacking(pile, 4, 0))

    def test_as_many_as_there_are(self):
        for many in (1, 2, 7, 60):
            pile = [(number % 3, filled(2, 1, 1), number, 0) for number in range(many)]
            self.assertEqual([], lacking(pile, 2, many))
            # The lowest one is the first of the least rank.
            self.assertEqual([(0, 0)], lacking(pile, 2, many - 1))
            self.assertEqual([(0, number) for number in range(many)], lacking(pile, 2, 0))

    def test_sixty_layers_on_sixty_four_rows(self):
        pile = [(0, filled(64, 64, 1), 0, 0)] * 60
        self.assertEqual([(y, number) for y in range(64) for number in range(60)], lacking(pile, 64, 0))
        self.assertEqual([(y, number) for y in range(64) for number in range(52)], lacking(pile, 64, 8))
        self.assertEqual([], lacking(pile, 64, 60))

    def test_row_by_row(self):
        for layers in all_layers():
            for high, most in itertools.product((1, 6, 12), MOSTS):
                self.assertEqual(what_lacks(layers, high, most), lacking(pile_of(layers), high, most))

    def test_far_off_takes_little(self):
        pile = [(FAR, filled(64, 64, 1), -FAR, 0), (-FAR, filled(64, 64, 1), FAR, 3), (0, filled(64, 64, 1), 0, -FAR)]
        self.assertLess(most_held(lambda: lacking(pile, 64, 1)), LITTLE)

    def test_the_pile_is_left_as_it_was_and_the_list_told_is_a_new_one(self):
        for layers, most in itertools.product(([], some_layers(1), some_layers(4)), (0, 2, 60)):
            pile = pile_of(layers)
            before = copy.deepcopy(pile)
            told = lacking(pile, 5, most)
            self.assertEqual((before, list), (pile, type(told)))
            wanted = list(told)
            told.append(None)
            self.assertEqual((before, wanted), (pile, lacking(pile, 5, most)))
            kept = lacking(pile, 5, most)
            pile.clear()
            self.assertEqual(wanted, kept)


class BeamedTest(unittest.TestCase):

    def test_no_layer_and_none_read(self):
        for rows in (patterned(5, 4), holes(3, 3), [[7]], patterned(64, 64, 3)):
            board = bits_of(rows)
            for most in MOSTS:
                self.assertEqual(board, beamed(board, [], most))
            for layers in all_layers():
                self.assertEqual(board, beamed(board, pile_of(layers), 0))

    def test_written_out(self):
        board = bits_of([[9, 9, 9, 9], [9, 9, 9, 9]])
        pile = [(1, bits_of([[1, 1], [1, 1]]), 0, 0), (0, bits_of([[2, None, 2]]), 1, 1), (1, bits_of([[3]]), 1, 1)]
        self.assertEqual(bits_of([[1, 1, 9, 9], [9, 3, 9, 9]]), beamed(board, pile, 1))
        self.assertEqual(bits_of([[1, 1, 9, 9], [1, 3, 9, 9]]), beamed(board, pile, 2))
        self.assertEqual(bits_of([[1, 1, 9, 9], [1, 3, 9, 2]]), beamed(board, pile, 3))

    def test_ranks_alike_and_unlike(self):
        board = filled(3, 1, 9)
        low, high = filled(2, 1, 1), filled(2, 1, 2)
        self.assertEqual(bits_of([[1, 2, 2]]), beamed(board, [(0, low, 0, 0), (0, high, 1, 0)], 2))
        self.assertEqual(bits_of([[9, 2, 2]]), beamed(board, [(0, low, 0, 0), (0, high, 1, 0)], 1))
        self.assertEqual(bits_of([[1, 1, 2]]), beamed(board, [(1, low, 0, 0), (0, high, 1, 0)], 2))
        self.assertEqual(bits_of([[1, 1, 9]]), beamed(board, [(1, low, 0, 0), (0, high, 1, 0)], 1))

    def test_each_row_has_its_own_uppermost(self):
        board = filled(2, 3, 9)
        pile = [(0, filled(1, 3, 1), 0, 0), (1, filled(1, 1, 2), 1, 1)]
        self.assertEqual(bits_of([[1, 9], [9, 2], [1, 9]]), beamed(board, pile, 1))
        self.assertEqual(bits_of([[1, 9], [1, 2], [1, 9]]), beamed(board, pile, 2))

    def test_what_is_off_to_the_side_and_what_is_holes_is_read_all_the_same(self):
        board = filled(2, 2, 9)
        for upper in ((1, filled(3, 1, 4), FAR, 0), (1, filled(3, 1, 4), -FAR, 0), (1, filled(3, 1, 4), 2, 0),
                      (1, filled(3, 1, 4), -3, 0), (1, filled(2, 1), 0, 0)):
            pile = [(0, filled(2, 2, 1), 0, 0), upper]
            self.assertEqual(bits_of([[9, 9], [1, 1]]), beamed(board, pile, 1))
            self.assertEqual(filled(2, 2, 1), beamed(board, pile, 2))

    def test_what_is_off_above_and_below_is_not_read(self):
        board = filled(2, 2, 9)
        for y in (-FAR, -3, 2, FAR):
            pile = [(0, filled(2, 2, 1), 0, 0), (1, filled(2, 3, 4), 0, y)]
            self.assertEqual(filled(2, 2, 1), beamed(board, pile, 1))
        pile = [(0, filled(2, 2, 1), 0, 0), (1, filled(2, 3, 4), 0, -2)]
        self.assertEqual(bits_of([[4, 4], [1, 1]]), beamed(board, pile, 1))
        pile = [(0, filled(2, 2, 1), 0, 0), (1, filled(2, 3, 4), 0, 1)]
        self.assertEqual(bits_of([[1, 1], [4, 4]]), beamed(board, pile, 1))

    def test_colour_nought_and_holes(self):
        board = bits_of([[None, 5, 6]])
        self.assertEqual(bits_of([[0, 5, 0]]), beamed(board, [(0, bits_of([[0, None, 0]]), 0, 0)], 1))
        self.assertEqual(bits_of([[None, 0, 6]]), beamed(board, [(0, DOT, 1, 0)], 8))

    def test_read_whole_it_is_the_plain_painting(self):
        for layers in all_layers():
            pile = pile_of(layers)
            for ground in (None, 0, 13):
                self.assertEqual(painted(6, 5, pile, ground), beamed(filled(6, 5, ground), pile, 60))

    def test_cell_by_cell(self):
        for layers in all_layers():
            for rows, most in itertools.product((patterned(6, 5, 3), [[8] * 4] * 6, patterned(1, 1)), MOSTS):
                board = bits_of(rows)
                told = beamed(board, pile_of(layers), most)
                self.assertEqual(bits_of(rows_beamed(rows, layers, most)), told)
                self.assertIs(True, is_picture(told))

    def test_great(self):
        rows = [[(x + y) % 16 for x in range(64)] for y in range(64)]
        layers = [(number % 5, patterned(20, 20, number), number * 7 % 70 - 10, number * 11 % 80 - 18)
                  for number in range(60)]
        for most in (0, 1, 8, 60):
            self.assertEqual(bits_of(rows_beamed(rows, layers, most)), beamed(bits_of(rows), pile_of(layers), most))

    def test_far_off_takes_little(self):
        pile = [(FAR, filled(64, 64, 1), -FAR, 0), (-FAR, filled(64, 64, 1), FAR, 3), (0, filled(64, 64, 1), 0, -FAR)]
        board = filled(64, 64, 4)
        self.assertEqual(board, beamed(board, pile, 60))
        self.assertLess(most_held(lambda: beamed(board, pile, 60)), LITTLE)

    def test_the_board_and_the_pile_are_left_as_they_were(self):
        board, pile = bits_of(patterned(5, 5)), pile_of(some_layers(3))
        before = copy.deepcopy((board, pile))
        told = beamed(board, pile, 2)
        self.assertEqual((before, told), ((board, pile), beamed(board, pile, 2)))


class BeamTest(unittest.TestCase):

    def read(self, high, makes):
        """A beam that has read rows of these makes."""
        beam = Beam(high)
        for make in makes:
            beam.step(make)
        return beam

    def test_at_first(self):
        for high in (1, 2, 64):
            beam = Beam(high)
            self.assertEqual(((0, 0), tuple), (beam.ahead(), type(beam.ahead())))
            self.assertIs(True, beam.rests())
            self.assertEqual([], beam.torn())

    def test_written_out(self):
        beam = Beam(3)
        told = []
        for make in (4, 4, 4, 5, 6, 6, 7):
            told.append((beam.step(make), beam.ahead(), beam.rests()))
        wanted = [((0, 0), (0, 1), False), ((0, 1), (0, 2), False), ((0, 2), (1, 0), True),
                  ((1, 0), (1, 1), False), ((1, 1), (1, 2), False), ((1, 2), (2, 0), True), ((2, 0), (2, 1), False)]
        self.assertEqual(wanted, told)
        self.assertEqual([(1, 1)], beam.torn())

    def test_row_by_row_turn_by_turn(self):
        for high in (1, 2, 5, 64):
            beam = Beam(high)
            for number in range(3 * high + 1):
                wanted = divmod(number, high)
                self.assertEqual(wanted, beam.ahead())
                self.assertIs(number % high == 0, beam.rests())
                told = beam.step(8)
                self.assertEqual((wanted, tuple), (told, type(told)))
            self.assertEqual([], beam.torn())

    def test_asking_changes_nothing(self):
        beam = self.read(4, [1, 1, 2])
        for time in range(3):
            self.assertEqual(((0, 3), False, [(0, 2)]), (beam.ahead(), beam.rests(), beam.torn()))
        self.assertEqual((0, 3), beam.step(2))

    def test_of_one_row_no_turn_is_torn(self):
        beam = Beam(1)
        for make in range(-5, 5):
            self.assertIs(True, beam.rests())
            self.assertEqual((make + 5, 0), beam.step(make))
        self.assertEqual([], beam.torn())

    def test_torn_amid_a_turn_and_not_at_its_first_row(self):
        self.assertEqual([], self.read(3, [1, 1, 1, 2, 2, 2, 1, 1, 1]).torn())
        self.assertEqual([(0, 1)], self.read(3, [1, 2, 2, 2, 2, 2]).torn())
        self.assertEqual([(0, 2)], self.read(3, [1, 1, 2, 2, 2, 2]).torn())
        self.assertEqual([(1, 1)], self.read(3, [1, 1, 1, 2, 3]).torn())
        self.assertEqual([(0, 1), (0, 2)], self.read(3, [1, 2, 1, 1, 1, 1]).torn())
        self.assertEqual([(0, 1), (1, 2), (3, 1), (3, 2)], self.read(3, [1, 2, 2, 3, 3, 1, 5, 5, 5, 1, 2, 3]).torn())

    def test_by_the_row_read_ahead_not_by_the_turns_first(self):
        self.assertEqual([(0, 1), (0, 3)], self.read(5, [7, 8, 8, 7, 7]).torn())

    def test_sixty_four_rows(self):
        self.assertEqual([(0, 63)], self.read(64, [1] * 63 + [2] * 65).torn())
        self.assertEqual([], self.read(64, [1] * 64 + [2] * 64).torn())
        self.assertEqual([(1, 1)], self.read(64, [1] * 65 + [2] * 63).torn())
        beam = self.read(64, range(128))
        self.assertEqual([(turn, row) for turn in range(2) for row in range(1, 64)], beam.torn())
        self.assertEqual((2, 0), beam.ahead())

    def test_each_way(self):
        for high in (1, 2, 3):
            for makes in itertools.product((0, 1, -1), repeat=6):
                wanted = [divmod(number, high) for number in range(1, 6)
                          if number % high != 0 and makes[number] != makes[number - 1]]
                self.assertEqual(wanted, self.read(high, makes).torn())

    def test_makes_of_many_figures_and_below_nought(self):
        great = 10 ** 6000
        self.assertEqual([], self.read(3, [great, great + 1 - 1, 10 ** 6000]).torn())
        self.assertEqual([(0, 1), (0, 2)], self.read(3, [great, great + 1, great]).torn())
        self.assertEqual([(0, 1)], self.read(3, [great, -great, -great]).torn())
        self.assertEqual([(0, 2)], self.read(3, [-1, -1, 1]).torn())
        self.assertEqual([(0, 1)], self.read(3, [0, -1, -1]).torn())
        self.assertEqual([], self.read(3, [-5, -5, -5, 0, 0, 0]).torn())

    def test_the_list_told_is_the_askers_own(self):
        beam = self.read(2, [1, 2])
        told = beam.torn()
        self.assertIs(list, type(told))
        told.append(None)
        self.assertEqual([(0, 1)], beam.torn())
        beam.torn().clear()
        self.assertEqual([(0, 1)], beam.torn())
        kept = beam.torn()
        beam.step(3)
        beam.step(4)
        self.assertEqual([(0, 1)], kept)
        self.assertEqual([(0, 1), (1, 1)], beam.torn())
        self.assertEqual([(0, 1), None], told)

    def test_each_beam_has_its_own(self):
        one, other = Beam(2), Beam(3)
        one.step(1)
        one.step(2)
        self.assertEqual(((0, 0), True, []), (other.ahead(), other.rests(), other.torn()))
        other.step(5)
        self.assertEqual(((1, 0), (0, 1)), (one.ahead(), other.ahead()))
        self.assertEqual(([(0, 1)], []), (one.torn(), other.torn()))


if __name__ == "__main__":
    unittest.main()
