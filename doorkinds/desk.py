"""A desk: it has a yard and answers rows by texts."""

from doorkinds.bodies import read_as, written_as
from doorkinds.errors import NoBody, NoRow
from doorkinds.forms import read_row
from doorkinds.less import SOMEONE, lessened
from doorkinds.names import names_in, renamed
from doorkinds.yards import Yard


def _join(yard, net, name):
    yard.join(net, name)
    return "ok"


def _introduce(yard, net, name, other):
    return yard.introduce(net, name, other)


def _send(yard, net, number, sender, receiver, letter):
    return _sent(yard, net, (number, sender, receiver, None, False), letter)


def _ask(yard, net, number, sender, receiver, letter):
    return _sent(yard, net, (number, sender, receiver, None, True), letter)


def _answer(yard, net, number, sender, receiver, other, letter):
    return _sent(yard, net, (number, sender, receiver, other, False), letter)


def _sent(yard, net, head, letter):
    body = _body_of(yard.kind_of(net), letter)
    ticket = yard.send(net, (*head, body))
    return f"ticket {ticket}"


def _cry(yard, net, name, number, letter):
    body = _body_of(yard.kind_of(net), letter)
    ticket = yard.cry(net, name, number, body)
    return f"ticket {ticket}"


def _body_of(kind, letter):
    saying = read_as("letters", letter)
    if len(names_in(saying)) > 0:
        raise NoBody("a letter of the desk has no names")
    return written_as(kind, lessened(saying, kind)[0])


def _come(yard, net, at):
    told = yard.come(net, at)
    if told[0] == "cried":
        return ";".join(["cried", *[_with_blanks(one) for one in told[1]]])
    return _with_blanks(told)


def _with_blanks(told):
    return " ".join([str(one) for one in told])


def _lose(yard, net, at):
    yard.lose(net, at)
    return "ok"


def _double(yard, net, at):
    yard.double(net, at)
    return "ok"


def _bend(yard, net, at):
    yard.bend(net, at)
    return "ok"


def _road(yard, net):
    return str(len(yard.road(net)))


def _inbox(yard, net, name):
    things = yard.inbox(net, name)
    return ";".join([str(len(things)), *[_shown(yard.kind_of(net), thing) for thing in things]])


def _shown(kind, thing):
    number, sender, _, _, _, body = thing
    saying = read_as(kind, body)
    nameless = renamed(saying, {name: SOMEONE for name in names_in(saying)})
    letter = written_as("letters", lessened(nameless, "letters")[0])
    return f"{number} {sender} {letter}"


def _broken(yard, net):
    rows = [_broken_shown(ticket, missing) for ticket, missing in yard.broken(net)]
    if len(rows) == 0:
        return "none"
    return " ".join(rows)


def _broken_shown(ticket, missing):
    numbers = ",".join([str(number) for number in missing])
    return f"{ticket}:{numbers}"


def _again(yard, net, ticket):
    return str(yard.again(net, ticket))


def _way(yard, net, other):
    way = yard.way(net, other)
    if way is None:
        return "none"
    if len(way) == 0:
        return "here"
    return _with_blanks(way)


_ANSWERS = {
    "join": _join, "introduce": _introduce, "send": _send, "ask": _ask, "answer": _answer, "cry": _cry, "come": _come,
    "lose": _lose, "double": _double, "bend": _bend, "road": _road, "inbox": _inbox, "broken": _broken,
    "again": _again, "way": _way,
}


class Desk:
    """What answers rows by texts, of a yard that is told by a row."""

    def __init__(self):
        self._yard = None

    def say(self, row):
        """Answer a row by a text; NoRow, and as the yard refuses."""
        first, told = read_row(row)
        if first == "yard":
            kinds, doors, most = told
            self._yard = Yard(kinds, doors, most=most)
            return "ok"
        if self._yard is None:
            raise NoRow("the desk has no yard")
        answer = _ANSWERS[first]
        return answer(self._yard, *told)
