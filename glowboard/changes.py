"""Changes, which tell for a colour a cell, and pictures that come of them and of rules."""

from glowboard.pictures import packed, rows_of


def by_swaps(swaps):
    """The change by a dict of colours and cells; colours that are no keys stay."""
    kept = dict(swaps)

    def swapped(colour):
        return kept.get(colour, colour)

    return swapped


def by_steps(by):
    """The change that goes so many colours on, round the sixteen."""
    def stepped(colour):
        return (colour + by) % 16

    return stepped


def chained(changes):
    """The change that does a list of changes in their order, up to one that tells None."""
    kept = list(changes)

    def changed(colour):
        told = colour
        for change in kept:
            told = change(told)
            # A change is asked for colours alone, so none is asked behind a hole.
            if told is None:
                return None
        return told

    return changed


def mapped_row(row, change):
    """A row of cells with each colour changed; holes stay holes."""
    return [None if cell is None else change(cell) for cell in row]


def mapped(pic, change):
    """A picture with each colour changed; holes stay holes."""
    return packed(pic[0], [mapped_row(row, change) for row in rows_of(pic)])


def ruled_row(wide, y, rule):
    """The cells that a rule tells for the row y."""
    return [rule(x, y) for x in range(wide)]


def ruled(wide, high, rule):
    """The picture of two sides whose cells a function of x and y tells."""
    return packed(wide, [ruled_row(wide, y, rule) for y in range(high)])
