"""Sayings: what is said in a net, a tuple of parts."""

from doorkinds.errors import NoPath
from doorkinds.kinds import FIGURES, is_made_of, is_name, is_word
from doorkinds.wholes import is_whole_within

GROUPS = ("loud", "quote")
FIRST_WORDS = ("word", "number", "name", "pause", "picture", "loud", "quote")
MOST_PARTS = 60
MOST_DEEP = 4
LARGEST = 10 ** 9
MOST_ROWS = 6
LONGEST_ROW = 8


def is_saying(kind, thing):
    """Tell of anything whether it is a saying of the kind."""
    if not isinstance(thing, tuple):
        return False
    waiting = [(thing, 1)]
    many = 0
    while waiting:
        parts, deep = waiting.pop()
        many += len(parts)
        # Both are asked ahead of the parts: what holds the same thing over and over would take too long to walk.
        if many > MOST_PARTS or deep > MOST_DEEP:
            return False
        if not all([_is_part(kind, part) for part in parts]):
            return False
        waiting.extend([(part[1], deep + 1) for part in parts if part[0] in GROUPS])
    return True


def _is_part(kind, thing):
    # The parts within a group are left for the caller to look at.
    if not isinstance(thing, tuple) or len(thing) == 0 or not isinstance(thing[0], str):
        return False
    if thing[0] == "pause":
        return len(thing) == 1
    return len(thing) == 2 and _may_hold(kind, thing[0], thing[1])


def _may_hold(kind, first, held):
    if first == "word":
        return is_word(held)
    if first == "number":
        return is_whole_within(held, -LARGEST, LARGEST)
    if first == "name":
        return is_name(kind, held)
    if first == "picture":
        return _is_picture(held)
    return first in GROUPS and isinstance(held, tuple) and len(held) > 0


def _is_picture(thing):
    if not isinstance(thing, tuple) or not 1 <= len(thing) <= MOST_ROWS:
        return False
    if not all([_is_row(row) for row in thing]):
        return False
    return all([len(row) == len(thing[0]) for row in thing])


def _is_row(thing):
    return isinstance(thing, str) and 1 <= len(thing) <= LONGEST_ROW and is_made_of(thing, FIGURES)


def parts_within(part):
    """Tell the parts straight within a part, none of a part that holds none."""
    if part[0] in GROUPS:
        return part[1]
    return ()


def paths_of(saying):
    """Tell the paths of all parts in their order, a list of tuples."""
    found = []
    _add_paths(saying, (), found)
    return found


def _add_paths(parts, ahead, found):
    for at, part in enumerate(parts):
        path = (*ahead, at)
        found.append(path)
        _add_paths(parts_within(part), path, found)


def parts_of(saying):
    """Tell all parts in the order of their paths, a list."""
    found = []
    for part in saying:
        found.append(part)
        found.extend(parts_of(parts_within(part)))
    return found


def part_at(saying, path):
    """Tell the part at the path, or refuse with NoPath, of anything."""
    if not isinstance(path, tuple) or len(path) == 0:
        raise NoPath("a path is a tuple of one number or more")
    part = None
    parts = saying
    for at in path:
        if not is_whole_within(at, 0, len(parts) - 1):
            raise NoPath("the path leads to no part")
        part = parts[at]
        parts = parts_within(part)
    return part


def size_of(saying):
    """Tell how many parts the saying has, those within others counted."""
    return len(paths_of(saying))
