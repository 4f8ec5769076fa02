"""Plans of yards: which nets there are, which doors join them, and the ways over the doors."""

from doorkinds.bars import is_bars
from doorkinds.kinds import is_kind
from doorkinds.wholes import is_whole_within

MOST_NETS = 5
MOST_DOORS = 7
MOST_SIGNS_A_PIECE = 200


def is_plan(kinds, doors, bars, most):
    """Tell of anything whether a yard may be made of it."""
    if not isinstance(kinds, tuple) or not 1 <= len(kinds) <= MOST_NETS:
        return False
    if not all([is_kind(kind) for kind in kinds]):
        return False
    if not isinstance(doors, tuple) or len(doors) > MOST_DOORS:
        return False
    if not all([_is_door(door, len(kinds)) for door in doors]):
        return False
    return _are_bars_of(bars, len(doors)) and is_whole_within(most, 1, MOST_SIGNS_A_PIECE)


def _is_door(thing, many):
    if not isinstance(thing, tuple) or len(thing) != 2:
        return False
    return all([is_whole_within(net, 0, many - 1) for net in thing]) and thing[0] != thing[1]


def _are_bars_of(thing, many):
    if thing is None:
        return True
    return isinstance(thing, tuple) and len(thing) == many and all([is_bars(bars) for bars in thing])


def side_at(pair, net):
    """Tell the side at which a door, told by its pair of nets, stands in the net, or None where it doesn't."""
    if net not in pair:
        return None
    return pair.index(net)


def way_over(doors, net, other):
    """Tell the shortest way from net to net, a list of doors' numbers, the first of such as lists go, or None."""
    ways = {net: []}
    reached = [net]
    # Nets are reached in the order of their ways, as doors are tried by their numbers: the first way found is told.
    for _ in range(MOST_NETS):
        beyond = []
        for here in reached:
            for door, pair in enumerate(doors):
                side = side_at(pair, here)
                if side is not None and pair[1 - side] not in ways:
                    ways[pair[1 - side]] = [*ways[here], door]
                    beyond.append(pair[1 - side])
        reached = beyond
    return ways.get(other, None)
