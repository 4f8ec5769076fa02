"""Whole numbers."""

from doorkinds.kinds import FIGURES, is_made_of

MOST_FIGURES = 10


def is_whole(thing):
    """Tell of anything whether it is a whole number."""
    # Python counts True and False among the ints, the document doesn't.
    return isinstance(thing, int) and not isinstance(thing, bool)


def is_whole_within(thing, least, most):
    """Tell of anything whether it is a whole number from least to most."""
    return is_whole(thing) and least <= thing <= most


def is_whole_from(thing, least):
    """Tell of anything whether it is a whole number from least on."""
    return is_whole(thing) and least <= thing


def is_side(thing):
    """Tell of anything whether it is the number of a side, 0 or 1."""
    return is_whole_within(thing, 0, 1)


def whole_of(text):
    """Tell the whole number that the text writes, or None where it writes none."""
    figures = text.removeprefix("-")
    # The length is asked first, as Python doesn't make a number of very many figures.
    if not 1 <= len(figures) <= MOST_FIGURES or not is_made_of(figures, FIGURES):
        return None
    number = int(text)
    # What has noughts ahead, or is -0, is written otherwise than the number is.
    if str(number) != text:
        return None
    return number
