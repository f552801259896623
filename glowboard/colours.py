"""Tones, tables of tones for the sixteen colours, and how near tones are."""

from glowboard.errors import NoTable
from glowboard.wholes import is_within


def is_tone(thing):
    """Whether a plain thing is a tone."""
    return is_within(thing, 0, 4095)


def tone_of(red, green, blue):
    """The tone of three parts, each from 0 to 15."""
    return 256 * red + 16 * green + blue


def parts_of(tone):
    """The red, green and blue of a tone."""
    return (tone // 256, tone // 16 % 16, tone % 16)


def table_of(tones):
    """The table of a list of sixteen tones; whatever else is refused with NoTable."""
    if not isinstance(tones, list) or len(tones) != 16:
        raise NoTable("a table is made of a list of sixteen tones")
    if not all([is_tone(tone) for tone in tones]):
        raise NoTable("a thing in the list is no tone")
    return tuple(tones)


def far_from(one, other):
    """How far two tones lie from each other."""
    return sum([(part - peer) ** 2 for part, peer in zip(parts_of(one), parts_of(other))])


def nearest(table, tone):
    """The colour of a table whose tone lies least far from a tone, of several the least."""
    best = 0
    for colour in range(len(table)):
        # Only what is nearer takes its place, so of several equally far the least colour stays.
        if far_from(table[colour], tone) < far_from(table[best], tone):
            best = colour
    return best


def blended(one, other):
    """The tone halfway between two tones, each part rounded down."""
    halves = [(part + peer) // 2 for part, peer in zip(parts_of(one), parts_of(other))]
    return tone_of(halves[0], halves[1], halves[2])
