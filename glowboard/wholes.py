"""Whole numbers: ints that are no truths."""


def is_whole(thing):
    """Whether a plain thing is a whole number."""
    return isinstance(thing, int) and not isinstance(thing, bool)


def is_within(thing, least, most):
    """Whether a plain thing is a whole number from least to most."""
    return is_whole(thing) and least <= thing <= most
