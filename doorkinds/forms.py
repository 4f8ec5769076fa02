"""Rows of the desk: their forms, and what is handed on of them."""

from doorkinds.errors import NoRow
from doorkinds.kinds import is_word
from doorkinds.wholes import whole_of

_FORMS = {
    "yard": ("kinds", "doors", "number"),
    "join": ("number", "name"),
    "introduce": ("number", "name", "number"),
    "send": ("number", "number", "name", "name", "letter"),
    "ask": ("number", "number", "name", "name", "letter"),
    "answer": ("number", "number", "name", "name", "number", "letter"),
    "cry": ("number", "name", "number", "letter"),
    "come": ("number", "number"),
    "lose": ("number", "number"),
    "double": ("number", "number"),
    "bend": ("number", "number"),
    "road": ("number",),
    "inbox": ("number", "name"),
    "broken": ("number",),
    "again": ("number", "number"),
    "way": ("number", "number"),
}


def read_row(row):
    """Tell the first word of a row and what it hands on, a tuple (text, list), or refuse with NoRow, of anything."""
    if not isinstance(row, str):
        raise NoRow("a row is a text")
    first = row.split(" ", 1)[0]
    if first not in _FORMS:
        raise NoRow("there is no such row")
    forms = _FORMS[first]
    words = _words_of(row, forms)
    if len(words) != len(forms):
        raise NoRow("the row has too many words or too few")
    return (first, [_told_by(form, word) for form, word in zip(forms, words)])


def _words_of(row, forms):
    # A letter is all that stands behind its blank, blanks too.
    if forms[-1] == "letter":
        return row.split(" ", len(forms))[1:]
    return row.split(" ")[1:]


def _told_by(form, word):
    if form == "number":
        return _number_of(word)
    if form == "kinds":
        return _kinds_of(word)
    if form == "doors":
        return _doors_of(word)
    if form == "name" and word == "":
        raise NoRow("a word is empty")
    return word


def _number_of(word):
    number = whole_of(word)
    if number is None or word.startswith("-"):
        raise NoRow("this is no number")
    return number


def _kinds_of(word):
    kinds = word.split(",")
    if not all([is_word(kind) for kind in kinds]):
        raise NoRow("kinds are words")
    return tuple(kinds)


def _doors_of(word):
    if word == "-":
        return ()
    return tuple([_door_of(pair) for pair in word.split(",")])


def _door_of(pair):
    nets = pair.split(">")
    if len(nets) != 2:
        raise NoRow("a door is two numbers with > between")
    return (_number_of(nets[0]), _number_of(nets[1]))
