"""A saying that grows part by part while a body is read."""

from doorkinds.errors import NoBody
from doorkinds.sayings import MOST_DEEP, MOST_PARTS, is_saying
from doorkinds.wholes import whole_of


class Growing:
    """The parts that were read so far, and the groups that were begun and not ended."""

    def __init__(self):
        self._begun = []
        self._levels = [[]]
        self._many = 0

    def put(self, part):
        """Put a part behind the others, within the group that was begun last, or refuse with NoBody."""
        self._many += 1
        # Asked here already, as a body may have very many parts.
        if self._many > MOST_PARTS:
            raise NoBody("there are too many parts")
        self._levels[-1].append(part)

    def begin(self, first):
        """Begin a group with this first word, or refuse with NoBody."""
        # What is within would be too deep, and a group holds something.
        if len(self._levels) >= MOST_DEEP:
            raise NoBody("a group is too deep")
        self._begun.append(first)
        self._levels.append([])

    def end(self, first):
        """End the group that was begun last, or refuse with NoBody where it is none with this first word."""
        if len(self._begun) == 0 or self._begun[-1] != first:
            raise NoBody("an end without its beginning")
        self._begun.pop()
        within = self._levels.pop()
        self.put((first, tuple(within)))

    def saying_of(self, kind):
        """Tell the saying of the kind that has grown, or refuse with NoBody where it is none."""
        if len(self._begun) > 0:
            raise NoBody("a beginning without its end")
        told = tuple(self._levels[0])
        if not is_saying(kind, told):
            raise NoBody("what it writes is no saying of the kind")
        return told


def plain_part(text):
    """Tell the number that the text writes, as a part, or else the text as a word (perhaps none that may stand)."""
    number = whole_of(text)
    if number is None:
        return ("word", text)
    return ("number", number)
