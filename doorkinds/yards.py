"""Yards: nets, the doors between them, and all that goes there."""

from doorkinds.doors import Door
from doorkinds.errors import Again, Barred, Feigned, Full, NoName, NoNet, NoPair, NoThing, NoWay, NoYard, Stray
from doorkinds.kinds import is_name, owner_of
from doorkinds.nets import Net, Parcel
from doorkinds.pieces import MOST_SIGNS
from doorkinds.plans import is_plan, side_at, way_over
from doorkinds.things import is_thing
from doorkinds.wholes import is_whole_within


class Yard:
    """Nets with their members and roads, and doors between them."""

    def __init__(self, kinds, doors, *, bars=None, most=MOST_SIGNS):
        if not is_plan(kinds, doors, bars, most):
            raise NoYard("no yard may be made of this")
        self._ends = doors
        self._nets = [Net(kind, most) for kind in kinds]
        self._doors = _doors_of(kinds, doors, bars)

    def kind_of(self, net):
        """Tell the kind of the net; NoNet."""
        return self._net(net).kind

    def join(self, net, name):
        """Put a member into the net; NoNet, NoName, Known."""
        here = self._net(net)
        if not is_name(here.kind, name) or owner_of(here.kind, name) is not None:
            raise NoName("no member may have this name")
        here.let_in(name)

    def members(self, net):
        """Tell the members of the net, a sorted list; NoNet."""
        return self._net(net).members()

    def way(self, net, other):
        """Tell the way from net to net, a list of doors' numbers, or None; NoNet."""
        self._net(net)
        self._net(other)
        return way_over(self._ends, net, other)

    def introduce(self, net, name, other):
        """Tell the name that stands for a member in another net; NoNet, NoMember, NoWay, Full."""
        way = self.way(net, other)
        self._net(net).check_member(name)
        if way is None:
            raise NoWay("no doors lead there")
        here, known, unknown = self._known_along(net, name, way)
        if any([self._doors[door].room() == 0 for door in unknown]):
            raise Full("a door on the way has no room")
        for door in unknown:
            side = side_at(self._ends[door], here)
            known = self._doors[door].lead(side, known)
            here = self._ends[door][1 - side]
        return known

    def _known_along(self, net, name, way):
        # Tells how far the name is known: the net, the name that stands for it there, the doors from there on.
        here = net
        known = name
        for at, door in enumerate(way):
            side = side_at(self._ends[door], here)
            led = self._doors[door].led(side, known)
            if led is None:
                return (here, known, way[at:])
            known = led
            here = self._ends[door][1 - side]
        return (here, known, [])

    def send(self, net, thing):
        """Put a member's thing on the road and tell its ticket; NoNet, NoThing, NoMember, Again, NoPair."""
        here = self._net(net)
        if not is_thing(here.kind, thing) or thing[2] is None:
            raise NoThing("this is no thing of the net to a receiver")
        here.check_sender(thing[1], thing[0])
        if not here.is_member(thing[2]) and self._door_of(net, thing[2]) is None:
            raise NoPair("the receiver stands for nobody")
        return here.send(Parcel(thing, None, None, []))

    def cry(self, net, name, number, body):
        """Put a member's cry on the road and tell its ticket; NoNet, NoThing, NoMember, Again."""
        here = self._net(net)
        thing = (number, name, None, None, False, body)
        if not is_thing(here.kind, thing):
            raise NoThing("this makes no cry of the net")
        here.check_sender(name, number)
        return here.send(Parcel(thing, (net, name, number), None, []))

    def come(self, net, at):
        """Let a piece on the road come and tell what became of it, a tuple; NoNet, NoPlace."""
        here = self._net(net)
        ticket, word, body = here.take(at)
        if body is None:
            return (word, ticket)
        parcel = here.parcel(ticket)
        thing = (*parcel.thing[:5], body)
        if parcel.first_cried is not None:
            return ("cried", self._cried(net, thing, parcel))
        return self._arrived(net, thing)

    def _arrived(self, net, thing):
        receiver = thing[2]
        if self._nets[net].is_member(receiver):
            self._nets[net].deliver(receiver, thing)
            return ("inbox", receiver)
        door = self._door_of(net, receiver)
        if door is None:
            return ("nobody", receiver)
        return self._carried(net, door, thing, None)

    def _cried(self, net, thing, parcel):
        here = self._nets[net]
        if not here.take_cry(parcel.first_cried):
            return []
        for name in here.members():
            # In another net the crier's name is somebody else's.
            if (net, name) != parcel.first_cried[:2]:
                here.deliver(name, thing)
        told = []
        for door, pair in enumerate(self._ends):
            if net in pair and door != parcel.put_out_by:
                told.append(self._carried(net, door, thing, parcel.first_cried))
        return told

    def _carried(self, net, door, thing, first_cried):
        side = side_at(self._ends[door], net)
        try:
            told, losses = self._doors[door].come(side, thing)
        except Barred:
            return ("stopped", door, "Barred")
        except Again:
            return ("stopped", door, "Again")
        except Feigned:
            return ("stopped", door, "Feigned")
        except NoPair:
            return ("stopped", door, "NoPair")
        except Stray:
            return ("stopped", door, "Stray")
        except Full:
            return ("stopped", door, "Full")
        other = self._ends[door][1 - side]
        ticket = self._nets[other].put(Parcel(told, first_cried, door, losses))
        return ("over", door, other, ticket)

    def _door_of(self, net, name):
        # The door of the net whose own name, standing in a pair at the net's side, the name is, or None.
        owner = owner_of(self._nets[net].kind, name)
        if owner is None or owner[0] >= len(self._ends):
            return None
        side = side_at(self._ends[owner[0]], net)
        if side is None or self._doors[owner[0]].led(side, name) is None:
            return None
        return owner[0]

    def road(self, net):
        """Tell the pieces on the road of the net, a list, the eldest ahead; NoNet."""
        return self._net(net).road()

    def lose(self, net, at):
        """Lose a piece on the road; NoNet, NoPlace."""
        self._net(net).lose(at)

    def double(self, net, at):
        """Double a piece on the road; NoNet, NoPlace."""
        self._net(net).double(at)

    def bend(self, net, at):
        """Bend a piece on the road; NoNet, NoPlace."""
        self._net(net).bend(at)

    def inbox(self, net, name):
        """Tell the things that came to a member, a list; NoNet, NoMember."""
        return self._net(net).inbox(name)

    def losses(self, net, ticket):
        """Tell the losses of what goes under the ticket, a list; NoNet, NoTicket."""
        return list(self._net(net).parcel(ticket).lost)

    def broken(self, net):
        """Tell the broken tickets of the net, a list of tuples (ticket, missing numbers); NoNet."""
        return self._net(net).broken()

    def again(self, net, ticket):
        """Send the pieces of the ticket that didn't come again and tell how many; NoNet, NoTicket."""
        return self._net(net).again(ticket)

    def _net(self, net):
        if not is_whole_within(net, 0, len(self._nets) - 1):
            raise NoNet("this is no net's number")
        return self._nets[net]


def _doors_of(kinds, ends, bars):
    doors = []
    for number, (net, other) in enumerate(ends):
        stopping = () if bars is None else bars[number]
        doors.append(Door(kinds[net], kinds[other], number, bars=stopping))
    return doors
