"""Sealed pieces of bodies, and what joins them."""

from doorkinds.rows import is_row_of_notes, is_row_of_texts
from doorkinds.wholes import is_whole_from, is_whole_within

MOST_SIGNS = 40
MOST_PIECES = 20000


def seal_of(ticket, number, of, signs):
    """Tell the seal of a piece."""
    seal = ticket
    for told in [number, of, *[_number_of(sign) for sign in signs]]:
        seal = (131 * seal + told + 7) % 999983
    return seal


def _number_of(sign):
    if isinstance(sign, tuple):
        return 10 * sign[0] + sign[1]
    if len(sign) == 1:
        return ord(sign)
    number = 7
    for letter in sign:
        number = (131 * number + ord(letter)) % 999983
    return number


def parted(kind, ticket, body, *, most=MOST_SIGNS):
    """Tell the pieces of so many signs of a body of the kind, a list."""
    # Texts and tuples are cut alike. Of no signs there is one piece, too.
    of = max(1, (len(body) + most - 1) // most)
    return [_piece_of(ticket, number, of, body[number * most:(number + 1) * most]) for number in range(of)]


def _piece_of(ticket, number, of, signs):
    return (ticket, number, of, seal_of(ticket, number, of, signs), signs)


class Joiner:
    """What takes the pieces of one ticket, in any order, and joins them."""

    def __init__(self, kind, ticket):
        self._kind = kind
        self._ticket = ticket
        self._of = None
        self._kept = {}

    def take(self, thing):
        """Take anything, and tell a word: bent, known or new."""
        if not _is_piece(self._kind, thing) or not self._fits(thing):
            return "bent"
        _, number, of, _, signs = thing
        if number not in self._kept:
            self._of = of
            self._kept[number] = signs
            return "new"
        if self._kept[number] != signs:
            return "bent"
        return "known"

    def _fits(self, piece):
        ticket, number, of, seal, signs = piece
        if ticket != self._ticket or self._of not in (None, of):
            return False
        return seal == seal_of(ticket, number, of, signs)

    def missing(self):
        """Tell the numbers that are missing, a rising list, none where no piece is kept."""
        if self._of is None:
            return []
        return [number for number in range(self._of) if number not in self._kept]

    def whole(self):
        """Tell the body where no piece is missing and some is kept, or None."""
        if len(self._kept) != self._of:
            return None
        rows = [self._kept[number] for number in range(self._of)]
        if self._kind == "letters":
            return "".join(rows)
        joined = []
        for signs in rows:
            joined.extend(signs)
        return tuple(joined)

    def __len__(self):
        return len(self._kept)


def _is_piece(kind, thing):
    if not isinstance(thing, tuple) or len(thing) != 5:
        return False
    ticket, number, of, seal, signs = thing
    if not all([is_whole_from(told, 0) for told in (ticket, number, of, seal)]):
        return False
    return is_whole_within(of, number + 1, MOST_PIECES) and _are_signs(kind, signs)


def _are_signs(kind, thing):
    if kind == "letters":
        return isinstance(thing, str)
    if kind == "sounds":
        return is_row_of_notes(thing)
    return is_row_of_texts(thing)
