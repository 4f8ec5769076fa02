"""The body of sounds: a tuple of notes, each a tone and a length."""

from doorkinds.errors import NoBody
from doorkinds.growing import Growing
from doorkinds.kinds import FIGURES, LETTERS
from doorkinds.rows import is_row_of_notes
from doorkinds.wholes import whole_of

# What ends a word or a number is, where neither was begun, a pause.
_END = (6, 1)
_NUMBER = (7, 1)
_BELOW = ((5, 1), (5, 1))
_LOUD = (7, 2)
_LOUD_END = (6, 2)


def written(saying):
    """Tell the body of sounds of a saying of sounds."""
    return tuple(_notes_of_all(saying))


def _notes_of_all(parts):
    notes = []
    for part in parts:
        notes.extend(_notes_of(part))
    return notes


def _notes_of(part):
    if part[0] == "pause":
        return [_END]
    if part[0] == "number":
        return [_NUMBER, *_notes_of_number(part[1]), _END]
    if part[0] == "loud":
        return [_LOUD, *_notes_of_all(part[1]), _LOUD_END]
    return [*_notes_of_signs(part[1], LETTERS), _END]


def _notes_of_number(number):
    figures = _notes_of_signs(str(abs(number)), FIGURES)
    if number < 0:
        return [*_BELOW, *figures]
    return figures


def _notes_of_signs(text, signs):
    notes = []
    for sign in text:
        k = signs.find(sign)
        notes.extend([(k // 6, 1), (k % 6, 1)])
    return notes


def read(body):
    """Tell the saying that a body of sounds writes, or refuse with NoBody, of anything."""
    if not is_row_of_notes(body):
        raise NoBody("a body of sounds is a tuple of notes")
    growing = Growing()
    at = 0
    while at < len(body):
        at = _read_at(body, at, growing)
    saying = growing.saying_of("sounds")
    # The lengths of the notes of signs, and signs by other tones than theirs, weren't looked at.
    if written(saying) != body:
        raise NoBody("this is written otherwise")
    return saying


def _read_at(body, at, growing):
    note = body[at]
    if note == _LOUD:
        growing.begin("loud")
        return at + 1
    if note == _LOUD_END:
        growing.end("loud")
        return at + 1
    if note == _END:
        growing.put(("pause",))
        return at + 1
    end = _end_from(body, at)
    if note == _NUMBER:
        growing.put(("number", _number_of(body[at + 1:end])))
    else:
        growing.put(("word", _text_of(body[at:end], LETTERS)))
    return end + 1


def _end_from(body, at):
    end = at
    while end < len(body) and body[end] != _END:
        end += 1
    if end == len(body):
        raise NoBody("there is no end")
    return end


def _number_of(notes):
    if notes[:2] == _BELOW:
        number = whole_of("-" + _text_of(notes[2:], FIGURES))
    else:
        number = whole_of(_text_of(notes, FIGURES))
    if number is None:
        raise NoBody("these figures are no number")
    return number


def _text_of(notes, signs):
    if len(notes) % 2 != 0:
        raise NoBody("a sign is two notes")
    numbers = [6 * notes[at][0] + notes[at + 1][0] for at in range(0, len(notes), 2)]
    if not all([number < len(signs) for number in numbers]):
        raise NoBody("there is no such sign")
    return "".join([signs[number] for number in numbers])
