"""Cuts of a picture, one picture laid on another, and the box of what is painted."""

from glowboard.pictures import filled, lowest_bit, paint_room


def bits_of_row(rows, y):
    """The bits of the row y, none where there is no such row."""
    return rows[y] if 0 <= y < len(rows) else 0


def cut_bits(bits, at, many):
    """So many bits from the bit at on; the bits below bit 0 are noughts."""
    moved = bits >> at if at >= 0 else bits << -at
    return moved & ((1 << many) - 1)


def cut(pic, x, y, wide, high):
    """The picture of two sides that shows a picture from (x, y) on, holes off it."""
    # Places may be far off: bits are moved only where a column of the picture lies in the cut.
    if x <= -wide or x >= pic[0]:
        return filled(wide, high)
    paints = [cut_bits(bits_of_row(pic[2], y + j), 4 * x, 4 * wide) for j in range(high)]
    masks = [cut_bits(bits_of_row(pic[3], y + j), x, wide) for j in range(high)]
    return (wide, high, tuple(paints), tuple(masks))


def laid_paint(wide, lower, upper, mask):
    """The paint of a row with another row of that mask laid on it."""
    return (lower & ~paint_room(wide, mask)) | upper


def laid(under, over, x=0, y=0):
    """A picture with another one laid on it at (x, y)."""
    upper = cut(over, -x, -y, under[0], under[1])
    paints = [laid_paint(under[0], lower, paint, mask)
              for lower, paint, mask in zip(under[2], upper[2], upper[3])]
    masks = [lower | mask for lower, mask in zip(under[3], upper[3])]
    return (under[0], under[1], tuple(paints), tuple(masks))


def columns_of(pic):
    """The mask of the columns that have a painted cell."""
    columns = 0
    for mask in pic[3]:
        columns = columns | mask
    return columns


def box_of(pic):
    """The least (x, y, wide, high) with all painted cells of a picture, None where it has none."""
    columns = columns_of(pic)
    if columns == 0:
        return None
    rows = [y for y in range(pic[1]) if pic[3][y] != 0]
    left = lowest_bit(columns)
    return (left, rows[0], columns.bit_length() - left, rows[-1] - rows[0] + 1)
