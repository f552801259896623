"""Plain painting, how many cells are seen, what layers cost, and which are kept [1, 2, 13, 14]."""

import copy
import itertools
import unittest

from glowboard.painting import cost_of, kept, painted, seen
from glowboard.pictures import cell_of, filled, is_picture
from glowboard.piles import top_at

from helper import FAR, SIDES, bits_of, cell_at, holes, most_held, patterned, pile_of, some_layers, uppermost

BOARDS = ((1, 1), (4, 3), (3, 8), (9, 2))
GROUNDS = (None, 0, 7, 15)
LITTLE = 400000


def rows_painted(wide, high, layers, ground):
    """Cell by cell as the document tells it; the layers are of rows."""
    told = []
    for y in range(high):
        tops = [uppermost(layers, x, y) for x in range(wide)]
        told.append([ground if top is None else cell_at(layers[top][1], x - layers[top][2], y - layers[top][3])
                     for x, top in enumerate(tops)])
    return told


def many_seen(wide, high, layers):
    tops = [uppermost(layers, x, y) for y in range(high) for x in range(wide)]
    return [tops.count(number) for number in range(len(layers))]


def whole_cost(wide, high, layers):
    """How many painted cells lie on the board, by asking each cell of each layer."""
    many = 0
    for rank, rows, x, y in layers:
        for j, row in enumerate(rows):
            for i, cell in enumerate(row):
                if cell is not None and 0 <= x + i < wide and 0 <= y + j < high:
                    many += 1
    return many


def around(wide, high):
    """Layers at, across and beside each side and corner of a board, and far off it, one layer a pile."""
    for rows in (patterned(3, 2, 4), [[0]], patterned(12, 11, 2)):
        xs = (-FAR, -len(rows[0]), 1 - len(rows[0]), 0, wide - 1, wide, FAR)
        ys = (-FAR, -len(rows), 1 - len(rows), 0, high - 1, high, FAR)
        for x, y in itertools.product(xs, ys):
            yield [(0, rows, x, y)]


def great_layers():
    """Layers that cover a board of 64 by 64 here and there, up to its corners."""
    return [(1, patterned(64, 64, 1), 0, 0), (3, patterned(64, 1, 2), -3, 63), (2, patterned(1, 64, 3), 63, -1),
            (3, patterned(64, 64, 4), 33, 40), (3, patterned(64, 64, 5), -50, -60), (-4, [[3] * 64] * 5, 0, 30)]


def all_piles():
    """Pairs of a board's sides and layers, of many sorts."""
    for sides in BOARDS:
        yield sides, []
        for layers in around(sides[0], sides[1]):
            yield sides, layers
        for seed in range(8):
            yield sides, some_layers(seed)
        twice = (4, patterned(3, 3, 8), 0, 0)
        yield sides, [twice, twice]
        yield sides, [twice, (4, [[1]], 0, 0), twice, (3, [[2] * 4], -1, 1), (9, holes(5, 5), 0, 0), twice]
        yield sides, [(0, [[5] * 20] * 20, -5, -5), (FAR, [[6]], 0, 0), (-FAR, [[7] * 9], 0, 0)]
        yield sides, [(0, holes(2, 2), 0, 0), (0, holes(64, 64), -3, -3)]
    yield (64, 64), great_layers()
    yield (1, 1), great_layers()
    yield (64, 64), [(number % 3, patterned(9, 9, number), number, 60 - number) for number in range(60)]


class PaintedTest(unittest.TestCase):

    def test_no_layer(self):
        for wide, high in SIDES:
            self.assertEqual(bits_of(holes(wide, high)), painted(wide, high, []))
            self.assertEqual(bits_of(holes(wide, high)), painted(wide, high, [], None))
            for ground in (0, 1, 15):
                self.assertEqual(bits_of([[ground] * wide] * high), painted(wide, high, [], ground))

    def test_written_out(self):
        pile = [(2, bits_of([[1, None, 3]]), 0, 0), (1, bits_of([[4, 0, 6], [7, 8, 9]]), 1, 0)]
        self.assertEqual(bits_of([[1, 4, 3, 6], [5, 7, 8, 9]]), painted(4, 2, pile, 5))
        self.assertEqual(bits_of([[1, 4, 3, 6], [None, 7, 8, 9]]), painted(4, 2, pile))
        self.assertEqual(bits_of([[1, 4, 3], [None, 7, 8], [None] * 3]), painted(3, 3, pile))
        self.assertEqual(bits_of([[1]]), painted(1, 1, pile, 15))

    def test_ranks_alike_and_unlike(self):
        one, two = filled(2, 1, 1), filled(2, 1, 2)
        self.assertEqual(bits_of([[1, 2, 2]]), painted(3, 1, [(0, one, 0, 0), (0, two, 1, 0)]))
        self.assertEqual(bits_of([[1, 1, 2]]), painted(3, 1, [(0, two, 1, 0), (0, one, 0, 0)]))
        self.assertEqual(bits_of([[1, 1, 2]]), painted(3, 1, [(1, one, 0, 0), (0, two, 1, 0)]))
        self.assertEqual(bits_of([[1, 2, 2]]), painted(3, 1, [(-FAR, one, 0, 0), (1 - FAR, two, 1, 0)]))
        self.assertEqual(bits_of([[1, 1, 2]]), painted(3, 1, [(FAR, one, 0, 0), (FAR - 1, two, 1, 0)]))

    def test_colour_nought_is_no_hole(self):
        self.assertEqual(bits_of([[0, 9]]), painted(2, 1, [(0, filled(1, 1, 0), 0, 0)], 9))
        self.assertEqual(bits_of([[0, None]]), painted(2, 1, [(0, filled(1, 1, 0), 0, 0)]))
        self.assertEqual(bits_of([[0, 3]]), painted(2, 1, [(0, filled(2, 1, 3), 0, 0), (1, filled(1, 1, 0), 0, 0)]))

    def test_cell_by_cell(self):
        for (wide, high), layers in all_piles():
            for ground in GROUNDS:
                told = painted(wide, high, pile_of(layers), ground)
                self.assertEqual(bits_of(rows_painted(wide, high, layers, ground)), told)
                self.assertIs(True, is_picture(told))
            self.assertEqual(painted(wide, high, pile_of(layers), None), painted(wide, high, pile_of(layers)))

    def test_it_is_what_is_at_the_top(self):
        pile = pile_of(some_layers(3))
        told = painted(6, 6, pile, 14)
        for y in range(6):
            for x in range(6):
                top = top_at(pile, x, y)
                wanted = 14 if top is None else cell_of(pile[top][1], x - pile[top][2], y - pile[top][3])
                self.assertEqual(wanted, cell_of(told, x, y))

    def test_sixty_layers(self):
        pile = [(0, filled(1, 1, number % 16), number, 0) for number in range(60)]
        self.assertEqual(bits_of([[number % 16 for number in range(60)] + [None] * 4]), painted(64, 1, pile))
        pile = [(-number, filled(64, 64, number % 16), 0, 0) for number in range(60)]
        self.assertEqual(filled(64, 64, 0), painted(64, 64, pile, 3))

    def test_nothing_is_refused_for_sides_somewhat_beyond(self):
        painted(65, 66, pile_of(some_layers(1)), 2)
        painted(1, 70, [(0, filled(1, 1, 2), 0, 69)] * 61, 2)


class SeenTest(unittest.TestCase):

    def test_no_layer(self):
        for wide, high in SIDES:
            self.assertEqual([], seen(wide, high, []))

    def test_written_out(self):
        pile = [(2, bits_of([[1, None, 0]]), 0, 0), (1, bits_of([[4, 0, 6], [7, 8, 9]]), 1, 0)]
        self.assertEqual([2, 5], seen(4, 2, pile))
        self.assertEqual([2, 1], seen(3, 1, pile))
        self.assertEqual([1, 0], seen(1, 1, pile))

    def test_wholly_hidden(self):
        pile = [(0, filled(2, 2, 1), 1, 1), (0, filled(4, 4, 0), 0, 0)]
        self.assertEqual([0, 16], seen(4, 4, pile))
        self.assertEqual([4, 12], seen(4, 4, [(1, filled(2, 2, 1), 1, 1), pile[1]]))

    def test_twice_in_the_list(self):
        layer = (3, filled(2, 1, 5), 0, 0)
        self.assertEqual([0, 2], seen(3, 3, [layer, layer]))
        self.assertEqual([0, 0, 0, 2], seen(3, 3, [layer, layer, layer, layer]))

    def test_place_by_place(self):
        for (wide, high), layers in all_piles():
            self.assertEqual(many_seen(wide, high, layers), seen(wide, high, pile_of(layers)))


class CostOfTest(unittest.TestCase):

    def test_no_layer(self):
        for wide, high in SIDES:
            self.assertEqual(0, cost_of(wide, high, []))

    def test_written_out(self):
        pile = [(2, bits_of([[1, None, 0]]), 0, 0), (1, bits_of([[4, 0, 6], [7, 8, 9]]), 1, 0)]
        self.assertEqual(8, cost_of(4, 2, pile))
        self.assertEqual(4, cost_of(3, 1, pile))
        self.assertEqual(1, cost_of(1, 1, pile))

    def test_hidden_cells_cost_too(self):
        self.assertEqual(4 * 60, cost_of(2, 2, [(0, filled(2, 2, 0), 0, 0)] * 60))
        self.assertEqual(4096 * 2, cost_of(64, 64, [(0, filled(64, 64, 3), 0, 0)] * 2))

    def test_cell_by_cell(self):
        for (wide, high), layers in all_piles():
            self.assertEqual(whole_cost(wide, high, layers), cost_of(wide, high, pile_of(layers)))


class KeptTest(unittest.TestCase):

    def test_no_layer(self):
        for wide, high in SIDES:
            self.assertEqual([], kept(wide, high, []))

    def test_in_their_order_in_the_list(self):
        pile = [(number * 7 % 5, filled(1, 1, number), number, 0) for number in range(10)]
        self.assertEqual(pile, kept(10, 1, pile))
        self.assertEqual(pile[:4], kept(4, 1, pile))

    def test_hidden_ones_holes_and_those_off_the_board(self):
        hidden = (0, filled(2, 2, 1), 1, 1)
        empty = (9, filled(4, 4), 0, 0)
        off = (5, filled(4, 4, 2), FAR, -FAR)
        beside = (5, filled(4, 4, 2), 4, 0)
        cover = (0, filled(4, 4, 0), 0, 0)
        dot = (1, bits_of([[None, 3]]), 2, 3)
        self.assertEqual([cover, dot], kept(4, 4, [hidden, empty, off, cover, beside, dot]))
        self.assertEqual([dot, cover], kept(4, 4, [dot, hidden, cover]))
        self.assertEqual([], kept(4, 4, [empty, off, beside]))
        self.assertEqual([beside], kept(5, 1, [empty, off, beside]))

    def test_twice_in_the_list(self):
        layer = (3, filled(2, 1, 5), 0, 0)
        self.assertEqual([layer], kept(3, 3, [layer, layer]))
        half = (3, filled(2, 1, 5), 1, 0)
        self.assertEqual([half, layer], kept(3, 3, [layer, half, layer]))

    def test_those_of_which_a_cell_is_seen(self):
        for (wide, high), layers in all_piles():
            pile = pile_of(layers)
            wanted = [layer for layer, many in zip(pile, many_seen(wide, high, layers)) if many != 0]
            self.assertEqual(wanted, kept(wide, high, pile))

    def test_their_painting_is_the_piles_and_they_cost_no_more(self):
        for (wide, high), layers in all_piles():
            pile = pile_of(layers)
            left = kept(wide, high, pile)
            for ground in GROUNDS:
                self.assertEqual(painted(wide, high, pile, ground), painted(wide, high, left, ground))
            self.assertLessEqual(cost_of(wide, high, left), cost_of(wide, high, pile))
            self.assertEqual(left, kept(wide, high, left))


class BoundsTest(unittest.TestCase):

    def far_piles(self):
        for x, y in ((FAR, 0), (-FAR, 0), (0, FAR), (0, -FAR), (FAR, -FAR), (-FAR, FAR), (1 - FAR, FAR - 1)):
            yield [(FAR, filled(64, 64, 15), x, y), (-FAR, filled(64, 64, 3), y, x)]

    def test_far_off(self):
        for pile in self.far_piles():
            for wide, high in ((1, 1), (64, 64)):
                self.assertEqual(filled(wide, high, 4), painted(wide, high, pile, 4))
                self.assertEqual([0, 0], seen(wide, high, pile))
                self.assertEqual(0, cost_of(wide, high, pile))
                self.assertEqual([], kept(wide, high, pile))

    def test_far_off_no_row_of_bits_as_long_as_a_place(self):
        for pile in self.far_piles():
            self.assertLess(most_held(lambda: painted(64, 64, pile)), LITTLE)
            self.assertLess(most_held(lambda: kept(64, 64, pile)), LITTLE)
            self.assertLess(most_held(lambda: cost_of(64, 64, pile)), LITTLE)

    def test_the_pile_is_left_as_it_was_and_each_list_told_is_a_new_one(self):
        for layers in ([], some_layers(2), some_layers(5), [(0, [[1]], 0, 0)]):
            pile = pile_of(layers)
            before = copy.deepcopy(pile)
            painted(5, 5, pile, 3)
            cost_of(5, 5, pile)
            many, left = seen(5, 5, pile), kept(5, 5, pile)
            self.assertEqual(before, pile)
            self.assertIs(list, type(many))
            self.assertIs(list, type(left))
            self.assertIsNot(pile, left)
            wanted, others = list(many), list(left)
            many.append(5)
            left.append(None)
            self.assertEqual(before, pile)
            self.assertEqual(wanted, seen(5, 5, pile))
            self.assertEqual(others, kept(5, 5, pile))
            told = kept(5, 5, pile)
            pile.clear()
            self.assertEqual(others, told)


if __name__ == "__main__":
    unittest.main()
