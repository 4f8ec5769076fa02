"""A door and a yard once more, by the document's words and in the plainest way, to set beside the program's."""

from doorkinds.bars import barred_by
from doorkinds.bodies import read_as, written_as
from doorkinds.errors import (
    Again, Barred, Feigned, Full, NoMember, NoPair, NoPlace, NoSide, NoThing, NoTicket, NoWay, Stray
)
from doorkinds.less import lessened
from doorkinds.pieces import parted
from doorkinds.things import is_thing
from helping import own
from samples import CARRIED


def names_of(saying):
    """The names in the saying in the order of paths, as often as they stand there."""
    found = []
    for part in saying:
        if part[0] in ("loud", "quote"):
            found += names_of(part[1])
        elif part[0] == "name":
            found.append(part[1])
    return found


def with_names(saying, led):
    """The saying with each name led."""
    done = []
    for part in saying:
        if part[0] in ("loud", "quote"):
            part = (part[0], with_names(part[1], led))
        elif part[0] == "name":
            part = ("name", led[part[1]])
        done.append(part)
    return tuple(done)


class ModelDoor:
    """What is due of a door: each deed tells its answer, or the class of the refusal (of Barred with its number)."""

    def __init__(self, kind, other, number, bars=(), most=400):
        self.kinds = (kind, other)
        self.number = number
        self.bars = bars
        self.most = most
        self.pairs = []
        self.crossed = []
        self.out = [0, 0]
        self.asks = []

    def led(self, side, name):
        told = [pair[1 - side] for pair in self.pairs if pair[side] == name]
        return told[0] if told else None

    def is_own(self, side, name):
        return any(own(self.kinds[side], self.number, k) == name for k in range(420))

    def lead(self, side, name):
        if self.led(side, name) is None:
            there = [pair[1 - side] for pair in self.pairs]
            new = next(
                own(self.kinds[1 - side], self.number, k) for k in range(420)
                if own(self.kinds[1 - side], self.number, k) not in there
            )
            self.pairs.append((name, new) if side == 0 else (new, name))
        return self.led(side, name)

    def come(self, side, thing):
        if side not in (0, 1):
            return NoSide
        if not is_thing(self.kinds[side], thing):
            return NoThing
        number, sender, receiver, answers, asks, body = thing
        other = self.kinds[1 - side]
        saying = read_as(self.kinds[side], body)
        names = names_of(saying) if "name" in CARRIED[other] else []
        bar = barred_by(self.bars, side, thing, saying)
        if bar is not None:
            return (Barred, bar)
        if (side, sender, number) in self.crossed:
            return Again
        new = [name for name in [sender] + names if self.led(side, name) is None]
        if any(self.is_own(side, name) for name in new):
            return Feigned
        if receiver is not None and self.led(side, receiver) is None:
            return NoPair
        waits = [ask for ask in self.asks if ask["side"] == side and ask["under"] == answers]
        if answers is not None and not (waits and waits[0]["asked"] == sender and waits[0]["asker"] == receiver):
            return Stray
        if len(self.pairs) + len(set(new)) > self.most:
            return Full
        self.lead(side, sender)
        led = {name: self.lead(side, name) for name in names}
        self.crossed.append((side, sender, number))
        self.out[1 - side] += 1
        told, losses = lessened(with_names(saying, led) if led else saying, other)
        if answers is not None:
            self.asks.remove(waits[0])
            answers = waits[0]["number"]
        receiver = None if receiver is None else self.led(side, receiver)
        put_out = (self.out[1 - side], self.led(side, sender), receiver, answers, asks, written_as(other, told))
        if asks:
            self.asks.append({
                "side": 1 - side, "under": put_out[0], "asker": put_out[1], "asked": receiver, "number": number,
            })
        return (put_out, losses)

    def waiting(self, side):
        return sorted(ask["under"] for ask in self.asks if ask["side"] == side)

    def give_up(self, side, number):
        waits = [ask for ask in self.asks if ask["side"] == side and ask["under"] == number]
        if not waits:
            return Stray
        self.asks.remove(waits[0])
        return None

    def let_go(self, side, name):
        other = self.led(side, name)
        if other is None:
            return NoPair
        gone = (name, other) if side == 0 else (other, name)
        self.pairs.remove(gone)
        self.asks = [ask for ask in self.asks if gone[ask["side"]] not in (ask["asker"], ask["asked"])]
        return None


class ModelYard:
    """What is due of a yard, its deeds told likewise."""

    def __init__(self, kinds, ends, bars=None, most=40):
        self.kinds = kinds
        self.ends = ends
        self.most = most
        self.doors = [
            ModelDoor(kinds[i], kinds[j], number, bars[number] if bars else ()) for number, (i, j) in enumerate(ends)
        ]
        self.members = [{} for _ in kinds]
        self.used = [set() for _ in kinds]
        self.tickets = [[] for _ in kinds]
        self.roads = [[] for _ in kinds]
        self.taken = [set() for _ in kinds]

    def way(self, net, other):
        ways = [(net, [])]
        for _ in self.kinds:
            found = sorted(way for end, way in ways if end == other)
            if found:
                return found[0]
            ways = [
                (pair[1 - pair.index(end)], way + [door])
                for end, way in ways for door, pair in enumerate(self.ends) if end in pair
            ]
        return None

    def introduce(self, net, name, other):
        if name not in self.members[net]:
            return NoMember
        way = self.way(net, other)
        if way is None:
            return NoWay
        at, known, unknown = net, name, False
        for door in way:
            side = self.ends[door].index(at)
            known = None if unknown else self.doors[door].led(side, known)
            unknown = unknown or known is None
            if unknown and len(self.doors[door].pairs) == 400:
                return Full
            at = self.ends[door][1 - side]
        at, known = net, name
        for door in way:
            side = self.ends[door].index(at)
            known = self.doors[door].lead(side, known)
            at = self.ends[door][1 - side]
        return known

    def door_of(self, net, name):
        for door, pair in enumerate(self.ends):
            if net in pair:
                side = pair.index(net)
                if self.doors[door].is_own(side, name) and self.doors[door].led(side, name) is not None:
                    return door
        return None

    def put(self, net, thing, cry, door, losses):
        ticket = len(self.tickets[net])
        pieces = parted(self.kinds[net], ticket, thing[5], most=self.most)
        self.tickets[net].append({
            "thing": thing, "cry": cry, "door": door, "losses": losses, "pieces": pieces, "kept": set(),
        })
        self.roads[net] += pieces
        return ticket

    def send(self, net, thing):
        if not is_thing(self.kinds[net], thing) or thing[2] is None:
            return NoThing
        return self.put_own(net, thing, None)

    def cry(self, net, name, number, body):
        thing = (number, name, None, None, False, body)
        if not is_thing(self.kinds[net], thing):
            return NoThing
        return self.put_own(net, thing, (net, name, number))

    def put_own(self, net, thing, cry):
        number, sender, receiver = thing[:3]
        if sender not in self.members[net]:
            return NoMember
        if (sender, number) in self.used[net]:
            return Again
        if cry is None and receiver not in self.members[net] and self.door_of(net, receiver) is None:
            return NoPair
        self.used[net].add((sender, number))
        return self.put(net, thing, cry, None, [])

    def place(self, net, at):
        return type(at) is int and 0 <= at < len(self.roads[net])

    def lose(self, net, at):
        if not self.place(net, at):
            return NoPlace
        del self.roads[net][at]
        return None

    def double(self, net, at):
        if not self.place(net, at):
            return NoPlace
        self.roads[net].append(self.roads[net][at])
        return None

    def bend(self, net, at):
        if not self.place(net, at):
            return NoPlace
        piece = self.roads[net][at]
        self.roads[net][at] = piece[:3] + (piece[3] + 1,) + piece[4:]
        return None

    def come(self, net, at):
        if not self.place(net, at):
            return NoPlace
        piece = self.roads[net].pop(at)
        ticket, number, of = piece[:3]
        row = self.tickets[net][ticket]
        if piece != row["pieces"][number]:
            return ("bent", ticket)
        if number in row["kept"]:
            return ("known", ticket)
        row["kept"].add(number)
        if len(row["kept"]) < of:
            return ("new", ticket)
        if row["cry"] is not None:
            return ("cried", self.cried(net, row))
        receiver = row["thing"][2]
        if receiver in self.members[net]:
            self.members[net][receiver].append(row["thing"])
            return ("inbox", receiver)
        door = self.door_of(net, receiver)
        return ("nobody", receiver) if door is None else self.over(net, door, row)

    def cried(self, net, row):
        if row["cry"] in self.taken[net]:
            return []
        self.taken[net].add(row["cry"])
        for name, inbox in self.members[net].items():
            if row["cry"][0] != net or row["cry"][1] != name:
                inbox.append(row["thing"])
        return [self.over(net, door, row) for door, pair in enumerate(self.ends) if net in pair and door != row["door"]]

    def over(self, net, door, row):
        side = self.ends[door].index(net)
        told = self.doors[door].come(side, row["thing"])
        if isinstance(told, type):
            return ("stopped", door, told.__name__)
        if told[0] is Barred:
            return ("stopped", door, "Barred")
        other = self.ends[door][1 - side]
        return ("over", door, other, self.put(other, told[0], row["cry"], door, told[1]))

    def losses(self, net, ticket):
        return self.tickets[net][ticket]["losses"]

    def broken(self, net):
        going = [piece[0] for piece in self.roads[net]]
        found = []
        for ticket, row in enumerate(self.tickets[net]):
            missing = [number for number in range(len(row["pieces"])) if number not in row["kept"]]
            if row["kept"] and missing and ticket not in going:
                found.append((ticket, missing))
        return found

    def again(self, net, ticket):
        if not 0 <= ticket < len(self.tickets[net]):
            return NoTicket
        row = self.tickets[net][ticket]
        pieces = [piece for piece in row["pieces"] if piece[1] not in row["kept"]]
        self.roads[net] += pieces
        return len(pieces)
