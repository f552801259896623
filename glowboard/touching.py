"""Where pictures at places, tuples (picture, x, y), touch, and when goers first do."""

from glowboard.cuts import cut
from glowboard.pictures import lowest_bit
from glowboard.ways import spot_of


def touch(one, other):
    """The first place, row by row from the top, where both have painted cells, None where there is none."""
    pic = one[0]
    # Both may be far off, so the other one is told by where it lies on the one.
    masks = cut(other[0], one[1] - other[1], one[2] - other[2], pic[0], pic[1])[3]
    for y in range(pic[1]):
        shared = pic[3][y] & masks[y]
        if shared != 0:
            return (one[1] + lowest_bit(shared), one[2] + y)
    return None


def touches(some):
    """The touches (i, j, x, y) of each two of a list of pictures at places, by i, then by j."""
    told = []
    for i in range(len(some)):
        for j in range(i + 1, len(some)):
            place = touch(some[i], some[j])
            if place is not None:
                told.append((i, j, place[0], place[1]))
    return told


def placed(goer, wide, high, beat):
    """The picture at a place that a goer is on a board at a beat."""
    spot = spot_of(goer, wide, high, beat)
    return (goer[0], spot[0], spot[1])


def first_touch(one, other, wide, high, most):
    """The first beat up to the most at which two goers touch, as (beat, x, y), None where there is none."""
    for beat in range(most + 1):
        # Where both are is asked ahead of whether they touch, so at beat 0 either may be refused with NoSpot.
        place = touch(placed(one, wide, high, beat), placed(other, wide, high, beat))
        if place is not None:
            return (beat, place[0], place[1])
    return None
