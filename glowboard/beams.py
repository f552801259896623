"""What the beam reads of a pile in each row, and the beam itself with its turns."""

from glowboard.cuts import cut, laid
from glowboard.piles import order_of


def is_on_row(layer, y):
    """Whether a row of the layer's picture lies on the row y, whatever its cells are."""
    return layer[3] <= y < layer[3] + layer[1][1]


def numbers_on_row(pile, y):
    """The numbers of the layers on a row, from the lowest to the uppermost."""
    return [number for number in order_of(pile) if is_on_row(pile[number], y)]


def many_lacking(numbers, most):
    """How many of the layers on a row, the lowest ones, are more than the beam reads there."""
    return max(0, len(numbers) - most)


def lacking(pile, high, most):
    """What lacks on a board of so many rows, tuples (row, number), by rows, then by numbers."""
    told = []
    for y in range(high):
        numbers = numbers_on_row(pile, y)
        for number in sorted(numbers[:many_lacking(numbers, most)]):
            told.append((y, number))
    return told


def beamed_row(board, pile, most, y):
    """The picture of one row of a board with the layers laid over it that are read there."""
    row = cut(board, 0, y, board[0], 1)
    numbers = numbers_on_row(pile, y)
    for number in numbers[many_lacking(numbers, most):]:
        layer = pile[number]
        row = laid(row, layer[1], layer[2], layer[3] - y)
    return row


def beamed(board, pile, most):
    """A board with the so many uppermost layers of a pile laid over it in each row."""
    rows = [beamed_row(board, pile, most, y) for y in range(board[1])]
    paints = [row[2][0] for row in rows]
    masks = [row[3][0] for row in rows]
    return (board[0], board[1], tuple(paints), tuple(masks))


class Beam:
    """A beam that reads a board of so many rows, row by row, turn by turn."""

    def __init__(self, high):
        self.high = high
        self.turn = 0
        self.row = 0
        self.make = None
        self.tears = []

    def ahead(self):
        """The turn and the row that are read next."""
        return (self.turn, self.row)

    def rests(self):
        """Whether the next row is a turn's first one."""
        return self.row == 0

    def step(self, make):
        """Reads the next row, which is of a make, and tells its turn and row."""
        read = self.ahead()
        # At a rest the make may be another one: a turn is torn only amid its rows.
        if not self.rests() and make != self.make:
            self.tears.append(read)
        self.make = make
        self.row = self.row + 1
        if self.row == self.high:
            self.row = 0
            self.turn = self.turn + 1
        return read

    def torn(self):
        """The turns and rows, as they came, whose make was not that of the row read ahead."""
        return list(self.tears)
