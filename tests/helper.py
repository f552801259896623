"""What several tests need: plain things of every sort, and pictures told cell by cell."""

MOST = 10 ** 60 - 1


def deep(depth):
    """A list, a tuple and a dict in one another, so many deep."""
    thing = None
    for step in range(depth):
        thing = ([thing], (thing,), {"in": thing})[step % 3]
    return thing


def no_numbers():
    """Plain things that are no whole numbers, made anew for each call."""
    return [
        True, False, None,
        "", " ", "0", "1", "-5", "None", "a" * 200,
        [], [0], [1, 2], [[1]], [None], [True], list(range(60)),
        (), (0,), (1, 2), ((1,),), (None,), tuple(range(60)),
        {}, {0: 1}, {"a": [1]}, {(1, 2): None},
        deep(9), deep(10),
    ]


def patterned(wide, high, seed=0):
    """Rows of cells with every colour and holes among them, where there is room for that."""
    rows = []
    for y in range(high):
        row = []
        for x in range(wide):
            told = (x * 7 + y * 13 + x * y * 3 + seed) % 21
            row.append(told if told < 16 else None)
        rows.append(row)
    return rows


def bits_of(rows):
    """The picture of such rows, told anew by adding up what each bit is worth."""
    paints = [sum(16 ** x * cell for x, cell in enumerate(row) if cell is not None) for row in rows]
    masks = [sum(2 ** x for x, cell in enumerate(row) if cell is not None) for row in rows]
    return (len(rows[0]), len(rows), tuple(paints), tuple(masks))
