"""Pictures told in tones, with bars that give a colour another tone from a row on."""

from glowboard.pictures import rows_of


def tones_at(table, ranked, y):
    """The tones of the sixteen colours in the row y, by a table and bars that are sorted by their rows."""
    tones = list(table)
    for row, colour, tone in ranked:
        if row <= y:
            tones[colour] = tone
    return tones


def lit_row(tones, row):
    """A row of cells told in tones, None for holes."""
    return [None if cell is None else tones[cell] for cell in row]


def lit(table, bars, pic):
    """A picture told as a list of lists of tones, by a table and bars (row, colour, tone)."""
    # Sorting leaves bars of one row in their order, so the last one of a row and colour is given last.
    ranked = sorted(bars, key=lambda bar: bar[0])
    return [lit_row(tones_at(table, ranked, y), row) for y, row in enumerate(rows_of(pic))]
