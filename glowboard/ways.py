"""Ways to and fro between two walls, and goers, which go such ways along both axes of a board."""

from glowboard.errors import NoSpot


def bounced(start, speed, room, beat):
    """Where a way along one axis is at a beat, from 0 to the room."""
    # Without room there is no to and fro, and nothing to take the rest by.
    if room == 0:
        return 0
    rest = (start + beat * speed) % (2 * room)
    return rest if rest <= room else 2 * room - rest


def spot_of(goer, wide, high, beat):
    """Where a goer (picture, x, y, dx, dy) is on a board at a beat; one that lies off it at the start is refused."""
    across = wide - goer[0][0]
    down = high - goer[0][1]
    if not 0 <= goer[1] <= across or not 0 <= goer[2] <= down:
        raise NoSpot("it does not lie on the board with all its picture at the start")
    return (bounced(goer[1], goer[3], across, beat), bounced(goer[2], goer[4], down, beat))
