"""Whole numbers."""


def is_whole(thing):
    """Tell of anything whether it is a whole number."""
    # Python counts True and False among the ints, the document doesn't.
    return isinstance(thing, int) and not isinstance(thing, bool)


def is_whole_within(thing, least, most):
    """Tell of anything whether it is a whole number from least to most."""
    return is_whole(thing) and least <= thing <= most
