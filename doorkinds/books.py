"""Books of names: which name of one side stands for which of the other."""

from doorkinds.errors import Bound, Feigned, Full, NoName, NoPair, NoSide
from doorkinds.kinds import is_name, own_name, owner_of
from doorkinds.wholes import is_side

MOST_PAIRS = 400


class Book:
    """The pairs of names of a door, one name of each side."""

    def __init__(self, kind, other, door, *, most=MOST_PAIRS):
        self._kinds = (kind, other)
        self._door = door
        self._most = most
        self._led = ({}, {})

    def fix(self, name, other):
        """Put a pair by its names of side 0 and side 1; NoName, Bound, Full."""
        for side, told in enumerate((name, other)):
            self._check_name(side, told)
            if self._is_own(side, told):
                raise NoName("an own name of the door is led, not fixed")
        if name in self._led[0] or other in self._led[1]:
            raise Bound("a name stands in a pair")
        self._put(name, other)

    def lead(self, side, name):
        """Tell the other side's name, and put a pair where there is none; NoSide, NoName, Feigned, Full."""
        other = self.led(side, name)
        if other is not None:
            return other
        if self._is_own(side, name):
            raise Feigned("the door has given this name to nobody")
        own = self._least_own(1 - side)
        if side == 0:
            self._put(name, own)
        else:
            self._put(own, name)
        return own

    def led(self, side, name):
        """Tell the other side's name, or None where it stands in no pair; NoSide, NoName."""
        if not is_side(side):
            raise NoSide("a side is 0 or 1")
        self._check_name(side, name)
        return self._led[side].get(name, None)

    def let_go(self, side, name):
        """Take the pair of the name away; NoSide, NoName, NoPair."""
        other = self.led(side, name)
        if other is None:
            raise NoPair("the name stands in no pair")
        del self._led[side][name]
        del self._led[1 - side][other]

    def pairs(self):
        """Tell the pairs, a sorted list of tuples (name of side 0, name of side 1)."""
        return sorted(self._led[0].items())

    def room(self):
        """Tell for how many more pairs there is room."""
        return self._most - len(self)

    def is_feigned(self, side, name):
        """Tell of a name of the side whether it is an own name of the door that stands in no pair."""
        return self._is_own(side, name) and name not in self._led[side]

    def __len__(self):
        return len(self._led[0])

    def _check_name(self, side, name):
        if not is_name(self._kinds[side], name):
            raise NoName("this is no name of the kind")

    def _is_own(self, side, name):
        owner = owner_of(self._kinds[side], name)
        return owner is not None and owner[0] == self._door

    def _least_own(self, side):
        k = 0
        while own_name(self._kinds[side], self._door, k) in self._led[side]:
            k += 1
        return own_name(self._kinds[side], self._door, k)

    def _put(self, name, other):
        if self.room() <= 0:
            raise Full("there is no room for more pairs")
        self._led[0][name] = other
        self._led[1][other] = name
