"""Piles, lists of layers (rank, picture, x, y): their order, and what is at the top at a place."""

from glowboard.pictures import cell_of


def order_of(pile):
    """The numbers of a pile's layers, from the lowest to the uppermost."""
    # Sorting leaves what is alike in its order, so of layers of one rank the later one is over the other.
    return sorted(range(len(pile)), key=lambda number: pile[number][0])


def layer_cell(layer, x, y):
    """The cell of a layer at a place."""
    return cell_of(layer[1], x - layer[2], y - layer[3])


def top_at(pile, x, y):
    """The number of the uppermost layer that has no hole at a place, None where there is none."""
    for number in reversed(order_of(pile)):
        if layer_cell(pile[number], x, y) is not None:
            return number
    return None
