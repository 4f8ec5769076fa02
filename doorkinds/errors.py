"""The refusals of the program."""


class DoorError(ValueError):
    """What every refusal is."""


class NoPath(DoorError):
    """This leads to no part of the saying."""


class NotCarried(DoorError):
    """The kind doesn't carry the part at the path `at`."""

    def __init__(self, at):
        super().__init__(f"not carried is the part at {at}")
        self.at = at


class NoBody(DoorError):
    """This is no body of the kind."""


class NoSide(DoorError):
    """This is neither side 0 nor side 1."""


class NoName(DoorError):
    """This is no name that may stand here."""


class Bound(DoorError):
    """The name stands in a pair already."""


class Feigned(DoorError):
    """The name is the door's own and stands in no pair."""


class NoPair(DoorError):
    """The name stands in no pair."""


class Full(DoorError):
    """There is no room for more pairs."""


class NoThing(DoorError):
    """This is no thing of the kind."""


class Barred(DoorError):
    """The bar with the number `at` stops the thing."""

    def __init__(self, at):
        super().__init__(f"stopped by the bar {at}")
        self.at = at


class Again(DoorError):
    """A thing of this sender and number came ahead."""


class Stray(DoorError):
    """The thing answers what doesn't wait for it."""


class NoYard(DoorError):
    """No yard may be made of this."""


class NoNet(DoorError):
    """This is no net's number."""


class Known(DoorError):
    """The name is a member's already."""


class NoMember(DoorError):
    """The name is no member's."""


class NoWay(DoorError):
    """No doors lead there."""


class NoPlace(DoorError):
    """This is no place on the road."""


class NoTicket(DoorError):
    """This is no ticket of the net."""


class NoRow(DoorError):
    """This is no row that the desk answers."""
