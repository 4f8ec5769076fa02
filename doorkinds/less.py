"""What each kind carries, and what is left of a saying where a kind carries less."""

from doorkinds.sayings import GROUPS, parts_within

SOMEONE = ("word", "someone")

_CARRIED = {
    "letters": ("loud", "name", "number", "pause", "picture", "quote", "word"),
    "calls": ("name", "number", "pause", "quote", "word"),
    "pages": ("loud", "name", "number", "pause", "picture", "word"),
    "sounds": ("loud", "number", "pause", "word"),
}


def carries(kind):
    """Tell the first words of the parts that the kind carries, a sorted list."""
    return sorted(_CARRIED[kind])


def lessened(saying, kind):
    """Tell what is left of the saying in the kind and what is lost: a tuple (saying, list of tuples (path, what))."""
    losses = []
    left = _left_of_parts(saying, (), kind, losses)
    return (left, losses)


def _left_of_parts(parts, ahead, kind, losses):
    left = []
    for at, part in enumerate(parts):
        left.extend(_left_of(part, (*ahead, at), kind, losses))
    return tuple(left)


def _left_of(part, path, kind, losses):
    carried = part[0] in _CARRIED[kind]
    # Told ahead of what is lost within, as paths go.
    if not carried:
        losses.append((path, part[0]))
    if part[0] in GROUPS:
        within = _left_of_parts(parts_within(part), path, kind, losses)
        return _group_of(part[0], within, carried)
    if carried:
        return (part,)
    return _instead_of(part)


def _group_of(first, within, carried):
    # A saying holds no empty group, so one within which nothing is left goes, too.
    if carried and len(within) > 0:
        return ((first, within),)
    return within


def _instead_of(part):
    if part[0] == "name":
        return (SOMEONE,)
    return ()
