"""Cells and pictures, kept as bits: a picture is a tuple (wide, high, paints, masks)."""

from glowboard.errors import NoPicture
from glowboard.wholes import is_whole, is_within


def is_side(thing):
    """Whether a plain thing is a side of a picture."""
    return is_within(thing, 1, 64)


def is_cell(thing):
    """Whether a plain thing is a colour or a hole."""
    return thing is None or is_within(thing, 0, 15)


def paint_room(wide, mask):
    """The bits that the paint of a row of this mask may have."""
    room = 0
    for x in range(wide):
        if (mask >> x) & 1 == 1:
            room = room | (15 << (4 * x))
    return room


def is_bits_row(wide, paint, mask):
    """Whether two plain things are the paint and the mask of a row as wide as told."""
    if not is_whole(paint) or not is_whole(mask):
        return False
    if mask < 0 or mask >> wide != 0:
        return False
    return paint >= 0 and (paint & ~paint_room(wide, mask)) == 0


def has_form(thing):
    """Whether a plain thing is two sides and two tuples as long as it is high."""
    if not isinstance(thing, tuple) or len(thing) != 4:
        return False
    if not is_side(thing[0]) or not is_side(thing[1]):
        return False
    if not isinstance(thing[2], tuple) or not isinstance(thing[3], tuple):
        return False
    return len(thing[2]) == thing[1] and len(thing[3]) == thing[1]


def is_picture(thing):
    """Whether a plain thing is a picture."""
    if not has_form(thing):
        return False
    return all([is_bits_row(thing[0], paint, mask) for paint, mask in zip(thing[2], thing[3])])


def is_cells_row(row, first):
    """Whether a plain thing is a list of cells as long as the first row."""
    # The first row is compared with itself ahead of the others, so its length is asked of lists alone.
    if not isinstance(row, list) or not is_side(len(row)) or len(row) != len(first):
        return False
    return all([is_cell(cell) for cell in row])


def paint_of(row):
    """The paint of a row of cells."""
    paint = 0
    for x, cell in enumerate(row):
        if cell is not None:
            paint = paint | (cell << (4 * x))
    return paint


def mask_of(row):
    """The mask of a row of cells."""
    mask = 0
    for x, cell in enumerate(row):
        if cell is not None:
            mask = mask | (1 << x)
    return mask


def packed(wide, rows):
    """The picture of rows that are known to be cells, each as many as it is wide; nothing is refused."""
    paints = tuple([paint_of(row) for row in rows])
    masks = tuple([mask_of(row) for row in rows])
    return (wide, len(rows), paints, masks)


def pictured(rows):
    """The picture of a list of lists of cells; whatever else is refused with NoPicture."""
    if not isinstance(rows, list) or not is_side(len(rows)):
        raise NoPicture(None)
    for number, row in enumerate(rows):
        if not is_cells_row(row, rows[0]):
            raise NoPicture(number)
    return packed(len(rows[0]), rows)


def cell_of(pic, x, y):
    """The cell of a picture at a place, a hole off the picture."""
    # Places may be far off: no bits are moved by them before they are known to lie on the picture.
    if x < 0 or x >= pic[0] or y < 0 or y >= pic[1]:
        return None
    if (pic[3][y] >> x) & 1 == 0:
        return None
    return (pic[2][y] >> (4 * x)) & 15


def row_of(pic, y):
    """The cells of one row of a picture, as a new list."""
    return [cell_of(pic, x, y) for x in range(pic[0])]


def rows_of(pic):
    """The rows of a picture, as a new list of new lists of cells."""
    return [row_of(pic, y) for y in range(pic[1])]


def many_bits(mask):
    """How many bits of a mask are 1."""
    many = 0
    left = mask
    while left != 0:
        # This takes the lowest 1 away, so there are as many rounds as painted cells.
        left = left & (left - 1)
        many = many + 1
    return many


def lowest_bit(mask):
    """The number of the lowest bit that is 1, of a mask that is not 0."""
    return (mask & -mask).bit_length() - 1


def many_painted(pic):
    """How many cells of a picture are no holes."""
    return sum([many_bits(mask) for mask in pic[3]])


def filled(wide, high, cell=None):
    """A picture all of whose cells are the one told."""
    row = [cell] * wide
    return (wide, high, (paint_of(row),) * high, (mask_of(row),) * high)
