"""Nets of a yard: their members, what goes under their tickets, and their roads of pieces."""

from doorkinds.errors import Again, Known, NoMember, NoPlace, NoTicket
from doorkinds.pieces import Joiner, parted
from doorkinds.wholes import is_whole_within


class Parcel:
    """A thing that goes under a ticket, and how it came into the net."""

    def __init__(self, thing, first_cried, put_out_by, lost):
        self.thing = thing
        # The net, name and number that first cried it, by which a cry is known. None of what is no cry.
        self.first_cried = first_cried
        # The door's number, None of a member's own.
        self.put_out_by = put_out_by
        self.lost = lost


class Net:
    """A net of a kind, with pieces of so many signs."""

    def __init__(self, kind, most):
        self.kind = kind
        self._most = most
        self._inboxes = {}
        self._used = {}
        self._parcels = []
        self._pieces = []
        self._joiners = []
        self._road = []
        self._cries = {}

    def let_in(self, name):
        """Make the name a member's; Known."""
        if name in self._inboxes:
            raise Known("the name is a member's already")
        self._inboxes[name] = []

    def members(self):
        """Tell the members, a sorted list."""
        return sorted(self._inboxes)

    def is_member(self, thing):
        """Tell of anything whether it is a member's name."""
        return isinstance(thing, str) and thing in self._inboxes

    def check_member(self, thing):
        """Refuse with NoMember what is no member's name, of anything."""
        if not self.is_member(thing):
            raise NoMember("the name is no member's")

    def inbox(self, name):
        """Tell the things that came to a member, a list; NoMember."""
        self.check_member(name)
        return list(self._inboxes[name])

    def deliver(self, name, thing):
        """Put the thing into the member's inbox."""
        self._inboxes[name].append(thing)

    def check_sender(self, name, number):
        """Refuse to send or cry for a name under a number; NoMember, Again."""
        self.check_member(name)
        if (name, number) in self._used:
            raise Again("the member sent or cried under this number")

    def send(self, parcel):
        """Put a member's own parcel on the road and tell its ticket."""
        number, sender, _, _, _, _ = parcel.thing
        self._used[(sender, number)] = True
        return self.put(parcel)

    def put(self, parcel):
        """Put the pieces of the parcel behind the road and tell its ticket."""
        ticket = len(self._parcels)
        pieces = parted(self.kind, ticket, parcel.thing[5], most=self._most)
        self._parcels.append(parcel)
        self._pieces.append(pieces)
        self._joiners.append(Joiner(self.kind, ticket))
        self._road.extend(pieces)
        return ticket

    def parcel(self, ticket):
        """Tell what goes under the ticket; NoTicket of anything that is none."""
        if not is_whole_within(ticket, 0, len(self._parcels) - 1):
            raise NoTicket("this is no ticket of the net")
        return self._parcels[ticket]

    def road(self):
        """Tell the pieces on the road, a list, the eldest ahead."""
        return list(self._road)

    def lose(self, at):
        """Take the piece at the place off the road; NoPlace."""
        self._check_place(at)
        del self._road[at]

    def double(self, at):
        """Put the like of the piece at the place behind the road; NoPlace."""
        self._check_place(at)
        self._road.append(self._road[at])

    def bend(self, at):
        """Make the seal of the piece at the place 1 more; NoPlace."""
        self._check_place(at)
        ticket, number, of, seal, signs = self._road[at]
        self._road[at] = (ticket, number, of, seal + 1, signs)

    def take(self, at):
        """Let the piece at the place come, and tell (ticket, Joiner's word, body made whole by it or None); NoPlace."""
        self._check_place(at)
        piece = self._road.pop(at)
        joiner = self._joiners[piece[0]]
        word = joiner.take(piece)
        if word != "new":
            return (piece[0], word, None)
        return (piece[0], word, joiner.whole())

    def _check_place(self, at):
        if not is_whole_within(at, 0, len(self._road) - 1):
            raise NoPlace("there is no such place on the road")

    def take_cry(self, cry):
        """Tell whether the net takes this cry now, for the first time."""
        if cry in self._cries:
            return False
        self._cries[cry] = True
        return True

    def broken(self):
        """Tell the tickets of which some piece came and others neither came nor go, a list of (ticket, missing)."""
        going = {piece[0]: True for piece in self._road}
        missing = [(ticket, joiner.missing()) for ticket, joiner in enumerate(self._joiners) if ticket not in going]
        return [(ticket, numbers) for ticket, numbers in missing if len(numbers) > 0]

    def again(self, ticket):
        """Put the pieces that the ticket's Joiner hasn't kept behind the road and tell how many; NoTicket."""
        self.parcel(ticket)
        pieces = self._pieces[ticket]
        joiner = self._joiners[ticket]
        if len(joiner) > 0:
            pieces = [pieces[number] for number in joiner.missing()]
        self._road.extend(pieces)
        return len(pieces)
