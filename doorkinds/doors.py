"""Doors: over them things cross from a net to a net of the same or of another kind."""

from doorkinds.bars import barred_by
from doorkinds.bodies import read_as, written_as
from doorkinds.books import MOST_PAIRS, Book
from doorkinds.errors import Again, Barred, Feigned, Full, NoPair, NoSide, NoThing, Stray
from doorkinds.less import lessened
from doorkinds.names import led_by, names_for
from doorkinds.things import is_thing
from doorkinds.wholes import is_side, is_whole


class Door:
    """A door between two nets, with its bars, its Book and the asks that wait for answers."""

    def __init__(self, kind, other, number, *, bars=(), most=MOST_PAIRS):
        self.kinds = (kind, other)
        self._bars = bars
        self._book = Book(kind, other, number, most=most)
        self._crossed = {}
        self._many_out = [0, 0]
        # By the side and the number under which an ask was put out: (asked, asker, the asker's number), the names
        # those of that side.
        self._waits = ({}, {})

    def come(self, side, thing):
        """Tell what crosses and what is lost, a tuple (thing, losses), or refuse the thing."""
        _check_side(side)
        if not is_thing(self.kinds[side], thing):
            raise NoThing("this is no thing of the kind")
        saying = read_as(self.kinds[side], thing[5])
        names = _each_once([thing[1], *names_for(saying, self.kinds[1 - side])])
        self._refuse(side, thing, saying, names)
        return self._cross(side, thing, saying, names)

    def _refuse(self, side, thing, saying, names):
        number, sender, receiver, answers, _, _ = thing
        bar = barred_by(self._bars, side, thing, saying)
        if bar is not None:
            raise Barred(bar)
        if (side, sender, number) in self._crossed:
            raise Again("a thing of this sender and number crossed")
        if any([self._book.is_feigned(side, name) for name in names]):
            raise Feigned("the door has given this name to nobody")
        if receiver is not None and self._book.led(side, receiver) is None:
            raise NoPair("the receiver stands in no pair")
        if answers is not None and not self._is_awaited(side, thing):
            raise Stray("no such answer is waited for")
        fresh = [name for name in names if self._book.led(side, name) is None]
        if len(fresh) > self._book.room():
            raise Full("there is no room for more pairs")

    def _is_awaited(self, side, thing):
        _, sender, receiver, answers, _, _ = thing
        if answers not in self._waits[side]:
            return False
        asked, asker, _ = self._waits[side][answers]
        return (sender, receiver) == (asked, asker)

    def _cross(self, side, thing, saying, names):
        number, sender, receiver, answers, asks, _ = thing
        out = 1 - side
        led = {}
        # The sender is the first of the names, and so led ahead of the others.
        for name in names:
            led[name] = self._book.lead(side, name)
        left, losses = lessened(led_by(saying, led), self.kinds[out])
        self._crossed[(side, sender, number)] = True
        self._many_out[out] += 1
        told_number = self._many_out[out]
        told_receiver = self._led_or_none(side, receiver)
        told_answers = self._end_wait(side, answers)
        if asks:
            self._waits[out][told_number] = (told_receiver, led[sender], number)
        body = written_as(self.kinds[out], left)
        return ((told_number, led[sender], told_receiver, told_answers, asks, body), losses)

    def _led_or_none(self, side, receiver):
        if receiver is None:
            return None
        return self._book.led(side, receiver)

    def _end_wait(self, side, answers):
        if answers is None:
            return None
        return self._waits[side].pop(answers)[2]

    def waiting(self, side):
        """Tell the numbers under which asks that were put out on the side wait for answers, a rising list; NoSide."""
        _check_side(side)
        return sorted(self._waits[side])

    def give_up(self, side, number):
        """Let the ask with this number wait no more; NoSide, Stray."""
        _check_side(side)
        if not is_whole(number) or number not in self._waits[side]:
            raise Stray("no ask waits under this number")
        del self._waits[side][number]

    def fix(self, name, other):
        """Put a pair as the Book does; NoName, Bound, Full."""
        self._book.fix(name, other)

    def lead(self, side, name):
        """Tell the other side's name as the Book does; NoSide, NoName, Feigned, Full."""
        return self._book.lead(side, name)

    def led(self, side, name):
        """Tell the other side's name or None as the Book does; NoSide, NoName."""
        return self._book.led(side, name)

    def let_go(self, side, name):
        """Take a pair away as the Book does, and give up the asks that hang on it; NoSide, NoName, NoPair."""
        other = self._book.led(side, name)
        self._book.let_go(side, name)
        self._give_up_of(side, name)
        self._give_up_of(1 - side, other)

    def _give_up_of(self, side, name):
        for number, (asked, asker, _) in list(self._waits[side].items()):
            if name in (asked, asker):
                del self._waits[side][number]

    def pairs(self):
        """Tell the pairs as the Book does."""
        return self._book.pairs()

    def room(self):
        """Tell for how many more pairs there is room."""
        return self._book.room()


def _check_side(side):
    if not is_side(side):
        raise NoSide("a side is 0 or 1")


def _each_once(names):
    return list({name: True for name in names})
