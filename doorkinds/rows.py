"""Rows: tuples of texts, tuples of notes."""

from doorkinds.wholes import is_whole_within


def is_row_of_texts(thing):
    """Tell of anything whether it is a tuple of texts."""
    return isinstance(thing, tuple) and all([isinstance(text, str) for text in thing])


def is_row_of_notes(thing):
    """Tell of anything whether it is a tuple of tuples of two whole numbers from 0 to 9."""
    return isinstance(thing, tuple) and all([_is_note(note) for note in thing])


def _is_note(thing):
    return isinstance(thing, tuple) and len(thing) == 2 and all([is_whole_within(number, 0, 9) for number in thing])
