"""Pictures slid, what is fresh behind it, and windows that are scrolled over a page."""

from glowboard.cuts import cut
from glowboard.errors import NoLine
from glowboard.pages import check_lines, top_of, view


def slid(pic, dx, dy):
    """A picture slid by (dx, dy): what lay so much farther on comes to its cells."""
    return cut(pic, dx, dy, pic[0], pic[1])


def fresh(wide, high, dx, dy):
    """The boxes, at most two, of the cells to which nothing of two sides comes that are slid by (dx, dy)."""
    across = abs(dx)
    down = abs(dy)
    if across >= wide or down >= high:
        return [(0, 0, wide, high)]
    boxes = []
    if across > 0:
        boxes.append((wide - dx if dx > 0 else 0, 0, across, high))
    if down > 0:
        # The columns of the other box are left out, so that no cell lies in both.
        boxes.append((0 if dx > 0 else across, high - dy if dy > 0 else 0, wide - across, down))
    return boxes


def many_shared(start, many, other, others):
    """How many numbers two stretches of whole numbers have in common, each told by its first one and its length."""
    return max(0, min(start + many, other + others) - max(start, other))


class Window:
    """A page seen through two sides, from a spot on that is (0, 0) at first."""

    def __init__(self, font, lines, lead, wide, high):
        check_lines(font, lines)
        self.font = font
        self.lines = list(lines)
        self.lead = lead
        self.wide = wide
        self.high = high
        self.x = 0
        self.y = 0

    def scroll(self, dx, dy):
        """Goes so much farther on, and tells how many cells are fresh."""
        self.x = self.x + dx
        self.y = self.y + dy
        return sum([box[2] * box[3] for box in fresh(self.wide, self.high, dx, dy)])

    def check_line(self, at):
        """Refuses with NoLine a number that is none of a line."""
        if at < 0 or at >= len(self.lines):
            raise NoLine("the page has no line of that number")

    def edit(self, at, text):
        """Puts a line otherwise, and tells how many of the window's cells lie on its rows."""
        self.check_line(at)
        self.font.pics_of(text)
        self.lines[at] = text
        top = top_of(self.font, self.lead, at)
        return self.wide * many_shared(top, self.font.height(), self.y, self.high)

    def line(self, at):
        """The text of a line."""
        self.check_line(at)
        return self.lines[at]

    def shown(self):
        """The view of the page from the spot on."""
        return view(self.font, self.lines, self.lead, self.x, self.y, self.wide, self.high)

    def spot(self):
        """Where the window lies on the page."""
        return (self.x, self.y)
