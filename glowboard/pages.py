"""Texts broken into rows of signs, and pages of lines with their views."""

from glowboard.cuts import laid
from glowboard.errors import TooWide
from glowboard.pictures import filled


def words_of(text):
    """The words of a text, none of the text without signs."""
    return [] if text == "" else text.split(" ")


def broken(font, text, wide):
    """The rows of a text's words, each of as many of the next words as go into a width."""
    # Asked of the whole text, so that a sign without picture is refused ahead of a word that is too wide.
    font.pics_of(text)
    words = words_of(text)
    for number, word in enumerate(words):
        if font.width(word) > wide:
            raise TooWide(number)
    rows = []
    for word in words:
        if len(rows) > 0 and font.width(rows[-1] + " " + word) <= wide:
            rows[-1] = rows[-1] + " " + word
        else:
            rows.append(word)
    return rows


def check_lines(font, lines):
    """Refuses with NoSign the first line that has a sign without picture."""
    for line in lines:
        font.pics_of(line)


def top_of(font, lead, at):
    """The first of the page's rows that the line of a number has."""
    return at * (font.height() + lead)


def view(font, lines, lead, x, y, wide, high):
    """The picture of two sides that shows a page from (x, y) on."""
    check_lines(font, lines)
    told = filled(wide, high)
    for at, line in enumerate(lines):
        top = top_of(font, lead, at) - y
        # A page may be far higher than the view, so the lines off it are passed over.
        if -font.height() < top < high:
            told = laid(told, font.band(line, x, wide), 0, top)
    return told
