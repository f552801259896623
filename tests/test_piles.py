"""Layers and piles: which layer is over which, and what is at the top [1, 2, 11, 12]."""

import copy
import unittest

from glowboard.cuts import cut
from glowboard.piles import order_of, top_at
from glowboard.pictures import filled

from helper import FAR, bits_of, is_over, most_held, patterned, pile_of, some_layers, uppermost

DOT = filled(1, 1, 0)


def ranked(ranks):
    """A pile of layers of these ranks, all alike else."""
    return [(rank, DOT, 0, 0) for rank in ranks]


class OrderOfTest(unittest.TestCase):

    def test_no_layer(self):
        self.assertEqual([], order_of([]))

    def test_written_out(self):
        self.assertEqual([0], order_of(ranked([5])))
        self.assertEqual([0, 1, 2], order_of(ranked([1, 2, 3])))
        self.assertEqual([2, 1, 0], order_of(ranked([3, 2, 1])))
        self.assertEqual([1, 2, 0], order_of(ranked([3, 1, 2])))
        self.assertEqual([0, 1, 2, 3], order_of(ranked([7, 7, 7, 7])))
        self.assertEqual([1, 3, 0, 2, 4], order_of(ranked([2, 1, 2, 1, 2])))

    def test_below_nought_and_far_off(self):
        self.assertEqual([2, 1, 0], order_of(ranked([0, -1, -2])))
        self.assertEqual([1, 4, 2, 5, 0, 3], order_of(ranked([FAR, -FAR, 0, FAR, -FAR, 0])))
        self.assertEqual([1, 3, 2, 0], order_of(ranked([FAR, -FAR, FAR - 1, 1 - FAR])))

    def test_each_is_over_those_ahead_of_it(self):
        for seed in range(40):
            ranks = [(number * 7 + seed) * (seed + 3) % 11 - 5 for number in range(seed % 13)]
            order = order_of(ranked(ranks))
            self.assertEqual(list(range(len(ranks))), sorted(order))
            for at in range(1, len(order)):
                self.assertTrue(is_over(ranks, order[at], order[at - 1]), ranks)

    def test_sixty_layers(self):
        self.assertEqual(list(range(60)), order_of(ranked([4] * 60)))
        self.assertEqual(list(range(59, -1, -1)), order_of(ranked(range(60, 0, -1))))
        told = order_of(ranked([number % 2 for number in range(60)]))
        self.assertEqual(list(range(0, 60, 2)) + list(range(1, 60, 2)), told)

    def test_by_the_rank_alone(self):
        pile = [(1, filled(9, 9, 15), 8, 8), (1, DOT, -5, -5), (0, filled(64, 64), FAR, FAR), (1, filled(1, 2), 0, 0)]
        self.assertEqual([2, 0, 1, 3], order_of(pile))

    def test_the_pile_is_left_as_it_was_and_what_is_told_is_the_askers_own(self):
        pile = ranked([3, 1, 2])
        before = copy.deepcopy(pile)
        told = order_of(pile)
        self.assertIs(list, type(told))
        self.assertEqual(before, pile)
        told.reverse()
        told.append(9)
        self.assertEqual([1, 2, 0], order_of(pile))
        kept = order_of(pile)
        pile.append((0, DOT, 0, 0))
        self.assertEqual([1, 2, 0], kept)


class TopAtTest(unittest.TestCase):

    def test_no_layer(self):
        for x, y in ((0, 0), (-1, 5), (FAR, -FAR)):
            self.assertIsNone(top_at([], x, y))

    def test_one_layer(self):
        pile = [(0, bits_of([[0, None], [None, 3]]), 4, -2)]
        self.assertEqual(0, top_at(pile, 4, -2))
        self.assertEqual(0, top_at(pile, 5, -1))
        for x, y in ((5, -2), (4, -1), (3, -2), (6, -1), (4, -3), (5, 0), (0, 0), (1, 1)):
            self.assertIsNone(top_at(pile, x, y))

    def test_the_greater_rank_is_over(self):
        self.assertEqual(0, top_at(ranked([2, 1]), 0, 0))
        self.assertEqual(1, top_at(ranked([1, 2]), 0, 0))
        self.assertEqual(1, top_at(ranked([-FAR, 1 - FAR, -FAR]), 0, 0))
        self.assertEqual(0, top_at(ranked([FAR, FAR - 1, -FAR]), 0, 0))

    def test_of_ranks_alike_the_later_one_is_over(self):
        self.assertEqual(3, top_at(ranked([5, 5, 5, 5]), 0, 0))
        self.assertEqual(2, top_at(ranked([5, 4, 5, 4]), 0, 0))
        self.assertEqual(59, top_at(ranked([-1] * 60), 0, 0))

    def test_through_holes(self):
        pile = [(0, filled(3, 1, 1), 0, 0), (2, bits_of([[None, 0, None]]), 0, 0), (1, bits_of([[None, 5, 0]]), 0, 0)]
        self.assertEqual([None, 0, 1, 2, None], [top_at(pile, x, 0) for x in range(-1, 4)])

    def test_at_holes_of_all_layers(self):
        pile = [(0, bits_of([[None, 1]]), 0, 0), (1, filled(5, 5), -1, -1)]
        self.assertEqual([None, 0, None], [top_at(pile, x, 0) for x in range(3)])

    def test_many_places(self):
        for seed in range(12):
            layers = some_layers(seed)
            pile = pile_of(layers)
            for y in range(-5, 9):
                for x in range(-5, 10):
                    self.assertEqual(uppermost(layers, x, y), top_at(pile, x, y), (seed, x, y))

    def test_great_layers(self):
        pile = [(0, filled(64, 64, 0), 0, 0), (0, filled(64, 1, 4), 1, 63), (0, filled(1, 64, 4), 63, 1)]
        self.assertEqual(0, top_at(pile, 0, 0))
        self.assertEqual(0, top_at(pile, 0, 63))
        self.assertEqual(1, top_at(pile, 1, 63))
        self.assertEqual(2, top_at(pile, 63, 63))
        self.assertEqual(1, top_at(pile, 64, 63))
        self.assertEqual(2, top_at(pile, 63, 64))
        self.assertEqual((None, None), (top_at(pile, 65, 63), top_at(pile, 63, 65)))

    def test_far_off(self):
        pic = bits_of([[1, None], [None, 2]])
        for far in (FAR, -FAR):
            pile = [(0, pic, far, far), (0, pic, -far, far), (0, pic, far, 0)]
            self.assertEqual(0, top_at(pile, far, far))
            self.assertEqual(1, top_at(pile, -far, far))
            self.assertEqual(2, top_at(pile, far, 0))
            self.assertEqual([None] * 4, [top_at(pile, x, y) for x, y in ((0, 0), (0, far), (-far, 0), (-far, -far))])
            self.assertIsNone(top_at([(0, pic, 0, 0)], far, far))
            self.assertIsNone(top_at([(0, pic, far, far)], -far, -far))

    def test_far_off_no_row_of_bits_as_long_as_a_place(self):
        pile = [(0, filled(64, 1, 15), -FAR, 0), (0, filled(64, 1, 15), FAR, 0)]
        for x in (-FAR, 0, FAR):
            self.assertLess(most_held(lambda: top_at(pile, x, 0)), 200000)

    def test_a_layer_shows_what_a_cut_does(self):
        pic = bits_of(patterned(5, 4, 6))
        for x in range(-6, 7):
            for y in range(-5, 6):
                is_painted = cut(pic, -x, -y, 1, 1) != filled(1, 1)
                self.assertEqual(0 if is_painted else None, top_at([(3, pic, x, y)], 0, 0))

    def test_the_pile_is_left_as_it_was(self):
        pile = [(2, filled(2, 2, 1), 0, 0), (1, filled(2, 2, 1), 0, 0), (1, filled(2, 2), -1, 0)]
        before = copy.deepcopy(pile)
        top_at(pile, 0, 0)
        top_at(pile, 9, 9)
        self.assertEqual(before, pile)


if __name__ == "__main__":
    unittest.main()
