"""Plain painting of a pile on a board, how many cells are seen of its layers, and what they cost."""

from glowboard.cuts import cut, laid
from glowboard.pictures import filled, many_bits, many_painted
from glowboard.piles import order_of


def painted(wide, high, pile, ground=None):
    """The painting of a pile on a ground, of two sides."""
    board = filled(wide, high, ground)
    for number in order_of(pile):
        layer = pile[number]
        board = laid(board, layer[1], layer[2], layer[3])
    return board


def on_board(wide, high, layer):
    """The picture of a board's sides that shows one layer alone."""
    return cut(layer[1], -layer[2], -layer[3], wide, high)


def seen(wide, high, pile):
    """How many cells are seen of each layer of a pile on a board."""
    told = [0] * len(pile)
    covered = [0] * high
    # From the uppermost down, a layer is at the top just where none was painted ahead of it.
    for number in reversed(order_of(pile)):
        masks = on_board(wide, high, pile[number])[3]
        told[number] = sum([many_bits(mask & ~cover) for mask, cover in zip(masks, covered)])
        covered = [mask | cover for mask, cover in zip(masks, covered)]
    return told


def cost_of(wide, high, pile):
    """How many painted cells of a pile's layers lie on a board, in all."""
    return sum([many_painted(on_board(wide, high, layer)) for layer in pile])


def kept(wide, high, pile):
    """The layers of a pile of which a cell is seen on a board, in their order in the list."""
    return [layer for layer, many in zip(pile, seen(wide, high, pile)) if many > 0]
