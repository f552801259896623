"""The refusals: one class for each, none under another, all under GlowError."""


class GlowError(ValueError):
    """Any refusal."""


class NoPicture(GlowError):
    """No picture can be made of it; row is the first row at fault, None where it is the whole."""

    def __init__(self, row):
        GlowError.__init__(self, f"no rows of a picture, the row at fault: {row}")
        self.row = row


class NoTable(GlowError):
    """No table can be made of it."""


class NoFont(GlowError):
    """No font can be made of it."""


class NoSign(GlowError):
    """A text has a sign without a picture; at is the sign's place there."""

    def __init__(self, sign, at):
        GlowError.__init__(self, f"no picture for the sign {sign!r} at {at}")
        self.sign = sign
        self.at = at


class TooWide(GlowError):
    """A word is wider than a row may be; word is its number."""

    def __init__(self, word):
        GlowError.__init__(self, f"too wide for a row, the word: {word}")
        self.word = word


class NoLine(GlowError):
    """A page has no line of that number."""


class NoSpot(GlowError):
    """What goes does not lie on its board at the start."""


class OffBoard(GlowError):
    """A stretch has a cell off the board; number is its place in the list."""

    def __init__(self, number):
        GlowError.__init__(self, f"off the board, the stretch: {number}")
        self.number = number


class NoNote(GlowError):
    """A thing is no stretch written as a text; row is its place in the list."""

    def __init__(self, row):
        GlowError.__init__(self, f"no written stretch, the row: {row}")
        self.row = row


class NoText(GlowError):
    """A text is no drawing or no scene; at is the word at fault, None in a drawing."""

    def __init__(self, at):
        GlowError.__init__(self, f"no drawing or scene, the word at fault: {at}")
        self.at = at


class NoScene(GlowError):
    """A part that goes does not lie in its pile at the start; part is its number there."""

    def __init__(self, part):
        GlowError.__init__(self, f"not in its pile at the start, the part: {part}")
        self.part = part


class Busy(GlowError):
    """A drawing is on the road or an exchange is awaited; owed is what is left of the cost."""

    def __init__(self, owed):
        GlowError.__init__(self, f"busy, still owed to the road: {owed}")
        self.owed = owed


class NoRow(GlowError):
    """It is no row that a desk knows."""


class NoBoard(GlowError):
    """A desk was told a row ahead of its first board."""


class NoName(GlowError):
    """A desk has no small one of that name."""
