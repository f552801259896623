"""What several tests need: plain things of every sort, and pictures told cell by cell."""

import tracemalloc

MOST = 10 ** 60 - 1
FAR = 1000000000
SIDES = ((1, 1), (2, 1), (1, 2), (3, 2), (2, 3), (5, 7), (16, 4), (17, 3), (63, 2), (64, 1), (1, 64), (64, 64))


def deep(depth):
    """A list, a tuple and a dict in one another, so many deep."""
    thing = None
    for step in range(depth):
        thing = ([thing], (thing,), {"in": thing})[step % 3]
    return thing


def no_numbers():
    """Plain things that are no whole numbers, made anew for each call."""
    return [
        True, False, None,
        "", " ", "0", "1", "-5", "None", "a" * 200,
        [], [0], [1, 2], [[1]], [None], [True], list(range(60)),
        (), (0,), (1, 2), ((1,),), (None,), tuple(range(60)),
        {}, {0: 1}, {"a": [1]}, {(1, 2): None},
        deep(9), deep(10),
    ]


def patterned(wide, high, seed=0):
    """Rows of cells with every colour and holes among them, where there is room for that."""
    rows = []
    for y in range(high):
        row = []
        for x in range(wide):
            told = (x * 7 + y * 13 + x * y * 3 + seed) % 21
            row.append(told if told < 16 else None)
        rows.append(row)
    return rows


def bits_of(rows):
    """The picture of such rows, told anew by adding up what each bit is worth."""
    paints = [sum(16 ** x * cell for x, cell in enumerate(row) if cell is not None) for row in rows]
    masks = [sum(2 ** x for x, cell in enumerate(row) if cell is not None) for row in rows]
    return (len(rows[0]), len(rows), tuple(paints), tuple(masks))


def holes(wide, high):
    """Rows of holes alone."""
    return [[None] * wide for y in range(high)]


def some_rows(sides=SIDES):
    """Rows of many sides: with holes and colours, with colour 0 and holes alone, with holes alone, without any."""
    for wide, high in sides:
        yield patterned(wide, high)
        yield patterned(wide, high, 5)
        yield patterned(wide, high, 17)
        yield [[0 if (x + y) % 2 == 0 else None for x in range(wide)] for y in range(high)]
        yield holes(wide, high)
        yield [[(x + 3 * y) % 16 for x in range(wide)] for y in range(high)]


def cell_at(rows, x, y):
    """The cell of such rows at a place, a hole off them."""
    if 0 <= y < len(rows) and 0 <= x < len(rows[y]):
        return rows[y][x]
    return None


def most_held(work):
    """The most memory, in bytes, that was held at once for a piece of work."""
    tracemalloc.start()
    try:
        work()
        return tracemalloc.get_traced_memory()[1]
    finally:
        tracemalloc.stop()
