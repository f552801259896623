"""What several tests need: plain things of every sort, and pictures told cell by cell."""

import tracemalloc

MOST = 10 ** 60 - 1
FAR = 1000000000
SIDES = ((1, 1), (2, 1), (1, 2), (3, 2), (2, 3), (5, 7), (16, 4), (17, 3), (63, 2), (64, 1), (1, 64), (64, 64))


def deep(depth):
    """A list, a tuple and a dict in one another, so many deep."""
    thing = None
    for step in range(depth):
        thing = ([thing], (thing,), {"in": thing})[step % 3]
    return thing


def no_numbers():
    """Plain things that are no whole numbers, made anew for each call."""
    return [
        True, False, None,
        "", " ", "0", "1", "-5", "None", "a" * 200,
        [], [0], [1, 2], [[1]], [None], [True], list(range(60)),
        (), (0,), (1, 2), ((1,),), (None,), tuple(range(60)),
        {}, {0: 1}, {"a": [1]}, {(1, 2): None},
        deep(9), deep(10),
    ]


def patterned(wide, high, seed=0):
    """Rows of cells with every colour and holes among them, where there is room for that."""
    rows = []
    for y in range(high):
        row = []
        for x in range(wide):
            told = (x * 7 + y * 13 + x * y * 3 + seed) % 21
            row.append(told if told < 16 else None)
        rows.append(row)
    return rows


def bits_of(rows):
    """The picture of such rows, told anew by adding up what each bit is worth."""
    paints = [sum(16 ** x * cell for x, cell in enumerate(row) if cell is not None) for row in rows]
    masks = [sum(2 ** x for x, cell in enumerate(row) if cell is not None) for row in rows]
    return (len(rows[0]), len(rows), tuple(paints), tuple(masks))


def holes(wide, high):
    """Rows of holes alone."""
    return [[None] * wide for y in range(high)]


def some_rows(sides=SIDES):
    """Rows of many sides: with holes and colours, with colour 0 and holes alone, with holes alone, without any."""
    for wide, high in sides:
        yield patterned(wide, high)
        yield patterned(wide, high, 5)
        yield patterned(wide, high, 17)
        yield [[0 if (x + y) % 2 == 0 else None for x in range(wide)] for y in range(high)]
        yield holes(wide, high)
        yield [[(x + 3 * y) % 16 for x in range(wide)] for y in range(high)]


def cell_at(rows, x, y):
    """The cell of such rows at a place, a hole off them."""
    if 0 <= y < len(rows) and 0 <= x < len(rows[y]):
        return rows[y][x]
    return None


def rows_cut(rows, x, y, wide, high):
    """The rows of a cut, cell by cell as the document tells it."""
    return [[cell_at(rows, x + i, y + j) for i in range(wide)] for j in range(high)]


def is_over(ranks, one, other):
    """Whether of layers of these ranks one is over the other."""
    return ranks[one] > ranks[other] or (ranks[one] == ranks[other] and one > other)


def uppermost(layers, x, y):
    """The uppermost that has no hole at a place, by comparing each two; the layers are of rows, not pictures."""
    ranks = [layer[0] for layer in layers]
    best = None
    for number, layer in enumerate(layers):
        if cell_at(layer[1], x - layer[2], y - layer[3]) is not None:
            if best is None or is_over(ranks, number, best):
                best = number
    return best


def pile_of(layers):
    """The pile of layers that are of rows."""
    return [(rank, bits_of(rows), x, y) for rank, rows, x, y in layers]


def some_layers(seed):
    """A few small layers of rows at and across (0, 0), one of them of holes alone, with few ranks."""
    layers = []
    for number in range(7):
        rows = patterned(1 + (number + seed) % 5, 1 + (number * 3 + seed) % 4, seed + number)
        rank = (number * 5 + seed) % 3 - 1
        layers.append((rank, rows, (number * 3 + seed) % 7 - 3, (number * 5 + seed) % 6 - 3))
    layers.insert(seed % 7, (9, holes(6, 6), -2, -2))
    return layers


def sign_rows(signs, high=3):
    """A dict of rows for some signs, of unlike widths and all of one height."""
    return {sign: patterned(1 + number * 3 % 5, high, 2 * number + high) for number, sign in enumerate(signs)}


def pairs_of(rows_by_signs):
    """The pairs that a font of these signs is made of."""
    return [(sign, bits_of(rows)) for sign, rows in rows_by_signs.items()]


def text_rows(rows_by_signs, gap, text):
    """The rows of a row of signs, put together sign by sign; each is [] for the text without signs."""
    told = [[] for rows in next(iter(rows_by_signs.values()))]
    for at, sign in enumerate(text):
        for row, added in zip(told, rows_by_signs[sign]):
            row.extend([None] * (gap if at > 0 else 0))
            row.extend(added)
    return told


def page_rows(rows_by_signs, gap, lines, lead):
    """The rows of a page from its top on, each as long as its line is."""
    told = []
    for at, line in enumerate(lines):
        told.extend([[]] * (lead if at > 0 else 0))
        told.extend(text_rows(rows_by_signs, gap, line))
    return told


def most_held(work):
    """The most memory, in bytes, that was held at once for a piece of work."""
    tracemalloc.start()
    try:
        work()
        return tracemalloc.get_traced_memory()[1]
    finally:
        tracemalloc.stop()
