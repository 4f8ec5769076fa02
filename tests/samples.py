"""Sayings to try things on: parts, groups, and rows of sayings that a fixed seed gives."""

import random

KINDS = ("letters", "calls", "pages", "sounds")
NAMES = {
    "letters": ["ann@hill", "c@doora"],
    "calls": ["+123", "+9012"],
    "pages": ["/hill/ann", "/doora/c"],
    "sounds": ["c-e-g", "g-a-b-f"],
}
CARRIED = {
    "letters": ["loud", "name", "number", "pause", "picture", "quote", "word"],
    "calls": ["name", "number", "pause", "quote", "word"],
    "pages": ["loud", "name", "number", "pause", "picture", "word"],
    "sounds": ["loud", "number", "pause", "word"],
}
W = ("word", "hi")
PAUSE = ("pause",)
PICTURE = ("picture", ("012", "345"))
NUMBERS = [0, 1, 9, 10, 11, 100, 101, 1000, 234567890, 999999999, 10 ** 9, -1, -9, -10, -203, 1 - 10 ** 9, -10 ** 9]
WORDS = [
    "a", "z", "hi", "someone", "abcdefgh", "number", "minus", "nought", "one", "nine", "over", "name", "quote",
    "unquote", "pause", "spell", "overs", "numbers", "ones", "word", "loud",
]


def loud(*parts):
    return ("loud", parts)


def quote(*parts):
    return ("quote", parts)


def nested(deep, part=W):
    """The part with so many groups round it."""
    for number in range(deep):
        part = loud(part) if number % 2 else quote(part)
    return part


def within(first, deep, *parts):
    """A part that is the parts within so many groups of one first word."""
    for _ in range(deep):
        parts = ((first, parts),)
    return parts[0]


def some_sayings(kind, many, *, firsts=None, seed=0):
    """Sayings of the kind with parts of these first words (those that it carries, where none are told)."""
    chance = random.Random(f"{kind} {seed}")
    firsts = CARRIED[kind] if firsts is None else firsts
    return [_some_parts(chance, kind, firsts, 1, [chance.randint(0, 20)]) for _ in range(many)]


def _some_parts(chance, kind, firsts, deep, room):
    parts = []
    while room[0] > 0 and (not parts or chance.random() < 0.8):
        room[0] -= 1
        parts.append(_some_part(chance, kind, firsts, deep, room))
    return tuple(parts)


def _some_part(chance, kind, firsts, deep, room):
    first = chance.choice(firsts)
    if first in ("loud", "quote"):
        if deep < 4 and room[0] > 0:
            return (first, _some_parts(chance, kind, firsts, deep + 1, room))
        first = "word"
    if first == "word":
        return ("word", chance.choice(WORDS))
    if first == "number":
        return ("number", chance.choice(NUMBERS + [chance.randint(-10 ** 9, 10 ** 9)]))
    if first == "name":
        return ("name", chance.choice(NAMES[kind]))
    if first == "picture":
        wide = chance.randint(1, 8)
        return ("picture", tuple("".join(chance.choices("0123456789", k=wide)) for _ in range(chance.randint(1, 6))))
    return PAUSE
