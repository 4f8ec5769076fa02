"""Papers of crossings, by which anybody can see what crossed."""

from doorkinds.bodies import read_as
from doorkinds.kinds import is_kind, is_name
from doorkinds.less import lessened
from doorkinds.names import led_by, names_for
from doorkinds.things import is_thing
from doorkinds.wholes import is_side, is_whole


def paper_of(door, side, thing, told, losses):
    """Tell the paper of what crossed the door just now: (kinds, side, thing, told, losses, pairs)."""
    pairs = [_pair_of(side, name, door.led(side, name)) for name in _names_led(door.kinds, side, thing)]
    return (door.kinds, side, thing, told, list(losses), sorted(pairs))


def _pair_of(side, name, other):
    if side == 0:
        return (name, other)
    return (other, name)


def _names_led(kinds, side, thing):
    _, sender, receiver, _, _, body = thing
    saying = read_as(kinds[side], body)
    names = {sender: True}
    if receiver is not None:
        names[receiver] = True
    for name in names_for(saying, kinds[1 - side]):
        names[name] = True
    return list(names)


def is_paper(thing):
    """Tell of anything whether it is a paper without a fault."""
    return first_fault(thing) is None


def first_fault(paper):
    """Tell of anything its first fault as a paper, a tuple of a word, or None."""
    if not _has_form(paper):
        return ("form",)
    kinds, side, came, told, losses, pairs = paper
    if not is_thing(kinds[side], came):
        return ("came",)
    if not is_thing(kinds[1 - side], told):
        return ("told",)
    if not _are_pairs(kinds, pairs):
        return ("names",)
    led = {pair[side]: pair[1 - side] for pair in pairs}
    fault = _fault_of_heads(came, told, led)
    if fault is None:
        fault = _fault_of_sayings(paper, led)
    if fault is None and len(led) > len(_names_led(kinds, side, came)):
        # All that are needed stand there by now, so what is more is needed by nobody.
        return ("more",)
    return fault


def _fault_of_heads(came, told, led):
    _, sender, receiver, answers, asks, _ = came
    _, told_sender, told_receiver, told_answers, told_asks, _ = told
    if led.get(sender, None) != told_sender:
        return ("sender",)
    if not _is_led_receiver(receiver, told_receiver, led):
        return ("receiver",)
    if asks != told_asks:
        return ("asks",)
    if (answers is None) != (told_answers is None):
        return ("answers",)
    return None


def _is_led_receiver(receiver, told_receiver, led):
    if told_receiver is None:
        return receiver is None
    return led.get(receiver, None) == told_receiver


def _fault_of_sayings(paper, led):
    kinds, side, came, told, losses, _ = paper
    other = kinds[1 - side]
    saying = read_as(kinds[side], came[5])
    if losses != lessened(saying, other)[1]:
        return ("losses",)
    if not all([name in led for name in names_for(saying, other)]):
        return ("says",)
    if read_as(other, told[5]) != lessened(led_by(saying, led), other)[0]:
        return ("says",)
    return None


def _has_form(thing):
    if not isinstance(thing, tuple) or len(thing) != 6:
        return False
    kinds, side, _, _, losses, pairs = thing
    if not isinstance(kinds, tuple) or len(kinds) != 2 or not all([is_kind(kind) for kind in kinds]):
        return False
    if not is_side(side) or not isinstance(losses, list) or not isinstance(pairs, list):
        return False
    return all([_is_loss(loss) for loss in losses]) and all([_is_pair(pair) for pair in pairs])


def _is_loss(thing):
    if not isinstance(thing, tuple) or len(thing) != 2 or not isinstance(thing[1], str):
        return False
    return isinstance(thing[0], tuple) and all([is_whole(number) for number in thing[0]])


def _is_pair(thing):
    return isinstance(thing, tuple) and len(thing) == 2 and all([isinstance(name, str) for name in thing])


def _are_pairs(kinds, pairs):
    for side in range(2):
        names = [pair[side] for pair in pairs]
        if not all([is_name(kinds[side], name) for name in names]) or len(set(names)) != len(names):
            return False
    return pairs == sorted(pairs)
