"""Things: what goes in a net, with its sender, its receiver and its body."""

from doorkinds.bodies import is_body
from doorkinds.kinds import is_name
from doorkinds.wholes import is_whole_from


def is_thing(kind, thing):
    """Tell of anything whether it is a thing of the kind: (number, sender, receiver, answers, asks, body)."""
    if not isinstance(thing, tuple) or len(thing) != 6:
        return False
    number, sender, receiver, answers, asks, body = thing
    if not is_whole_from(number, 0) or not is_name(kind, sender) or not isinstance(asks, bool):
        return False
    if receiver is None:
        return answers is None and not asks and is_body(kind, body)
    if answers is not None and not is_whole_from(answers, 0):
        return False
    return is_name(kind, receiver) and is_body(kind, body)
