"""Pictures turned, mirrored and upended, and the eight poses that come of it."""

from glowboard.pictures import packed, rows_of


def column_up(rows, x):
    """The cells of one column, from the lowest row to the top one."""
    return [row[x] for row in reversed(rows)]


def turned(pic):
    """A picture turned a quarter to the right."""
    rows = rows_of(pic)
    return packed(pic[1], [column_up(rows, x) for x in range(pic[0])])


def mirrored(pic):
    """A picture with left and right exchanged."""
    return packed(pic[0], [list(reversed(row)) for row in rows_of(pic)])


def upended(pic):
    """A picture with top and bottom exchanged."""
    return (pic[0], pic[1], tuple(reversed(pic[2])), tuple(reversed(pic[3])))


def mirrors(pose):
    """Whether a pose mirrors a picture ahead of turning it."""
    return pose >= 4


def posed(pic, pose):
    """A picture mirrored first, where the pose tells so, and turned then as often as it tells."""
    told = mirrored(pic) if mirrors(pose) else pic
    for quarter in range(pose % 4):
        told = turned(told)
    return told


def after(one, other):
    """The pose that does one pose and then the other."""
    # Being mirrored behind some turns is the same as being mirrored first and turned as often to the left.
    quarters = other - one if mirrors(other) else other + one
    return quarters % 4 + (4 if mirrors(one) != mirrors(other) else 0)


def undone(pose):
    """The pose that undoes a pose."""
    # Done twice, a pose that mirrors turns back the second time what it turned the first.
    return pose if mirrors(pose) else (4 - pose) % 4
