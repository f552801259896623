"""Fonts, which have a picture for each of their signs, and the rows of signs that they make."""

from glowboard.cuts import laid
from glowboard.errors import NoFont, NoSign
from glowboard.pictures import filled, is_picture
from glowboard.wholes import is_within


def is_sign(thing):
    """Whether a plain thing is a text of one sign, from the blank to ~, but no percent sign."""
    if not isinstance(thing, str) or len(thing) != 1:
        return False
    # The percent sign is told by its number, since it stands in no text of the program.
    return 32 <= ord(thing) <= 126 and ord(thing) != 37


def is_pair(thing):
    """Whether a plain thing is a tuple of a sign and a picture."""
    if not isinstance(thing, tuple) or len(thing) != 2:
        return False
    return is_sign(thing[0]) and is_picture(thing[1])


def pics_by_signs(pairs):
    """The dict of a font's pictures by their signs; what makes no font is refused with NoFont."""
    if not isinstance(pairs, list) or not is_within(len(pairs), 1, 60):
        raise NoFont("a font is made of a list of 1 to 60 pairs")
    if not all([is_pair(pair) for pair in pairs]):
        raise NoFont("a thing in the list is no tuple of a sign and a picture")
    pics = dict(pairs)
    if len(pics) != len(pairs):
        raise NoFont("a sign is told twice")
    if not all([pic[1] == pairs[0][1][1] for pic in pics.values()]):
        raise NoFont("the pictures are not all of one height")
    return pics


class Font:
    """Pictures of one height for some signs, and a gap between neighbours."""

    def __init__(self, pairs, gap=1):
        if not is_within(gap, 0, 8):
            raise NoFont("a gap is a whole number from 0 to 8")
        self.pics = pics_by_signs(pairs)
        self.high = pairs[0][1][1]
        self.gap = gap

    def height(self):
        """How high each picture is."""
        return self.high

    def pics_of(self, text):
        """The pictures of a text's signs; the first sign that has none is refused with NoSign."""
        for at, sign in enumerate(text):
            if sign not in self.pics:
                raise NoSign(sign, at)
        return [self.pics[sign] for sign in text]

    def width(self, text):
        """How many columns a row of signs has."""
        pics = self.pics_of(text)
        if len(pics) == 0:
            return 0
        return sum([pic[0] for pic in pics]) + self.gap * (len(pics) - 1)

    def band(self, text, x, wide):
        """The picture, so wide, that shows a row of signs from x on."""
        told = filled(wide, self.high)
        at = -x
        for pic in self.pics_of(text):
            # A row may be far longer than the band, so what lies off it is passed over.
            if -pic[0] < at < wide:
                told = laid(told, pic, at)
            at = at + pic[0] + self.gap
        return told
