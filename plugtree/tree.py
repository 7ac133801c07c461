"""The tree: which thing hangs where, which ports are open, and who hears a number."""

from plugtree.errors import BadName, Full, NoPort, NoThing, Taken, TooDeep
from plugtree.things import Thing

ROOT = ""
ROOT_PLAN = (0, 0, 4, ())
MOST_PORTS = 4
MOST_LETTERS = 8
LETTERS = "abcdefghijklmnopqrstuvwxyz"
MOST_DEEP = 5
MOST_THINGS = 15
# What a port's reset opens is heard so many frames behind it.
OPENING = 2


def need_name(name):
    """Refuse a name that no thing can have."""
    if not 1 <= len(name) <= MOST_LETTERS or not all([letter in LETTERS for letter in name]):
        raise BadName("such a name is none of a thing")


class Spot:
    """A thing and where it hangs."""

    def __init__(self, thing, hub, port, deep):
        self.thing = thing
        self.hub = hub
        self.port = port
        self.deep = deep

    def twin(self):
        """A spot like it, of a thing of its own."""
        return Spot(self.thing.twin(), self.hub, self.port, self.deep)


class Tree:
    """All that hangs at the root, by name; places of ports are pairs of a hub's name and a port."""

    def __init__(self):
        # Nobody hears the root; it is a thing for what its ports have to tell alone.
        self.root = Thing(ROOT_PLAN)
        self.spots = {}
        self.names = {}
        # From which frame on what hangs at an open port is heard.
        self.opened = {}

    def need_thing(self, name):
        """Refuse a name that no thing has."""
        if name not in self.spots:
            raise NoThing("no such thing hangs here")

    def thing_of(self, name):
        """The thing of a name."""
        self.need_thing(name)
        return self.spots[name].thing

    def hub_thing(self, hub):
        """The thing that a hub is, or the root."""
        return self.root if hub == ROOT else self.thing_of(hub)

    def depth_of(self, hub):
        """How deep a hub hangs; the root doesn't."""
        return 0 if hub == ROOT else self.spots[hub].deep

    def plug(self, name, plan, hub, port):
        """Plug a thing in at a port."""
        need_name(name)
        thing = Thing(plan)
        if name in self.spots:
            raise Taken("such a name is taken")
        above = self.hub_thing(hub)
        if not 1 <= port <= above.plan[2]:
            raise NoPort("the hub has no such port")
        if (hub, port) in self.names:
            raise Taken("such a port is taken")
        deep = self.depth_of(hub) + 1
        if deep > MOST_DEEP:
            raise TooDeep("too deep below the root")
        if len(self.spots) == MOST_THINGS:
            raise Full("no more things can hang here")
        above.turn_port(port)
        self.spots[name] = Spot(thing, hub, port, deep)
        self.names[(hub, port)] = name

    def children(self, name):
        """The names of what hangs at a hub's own ports."""
        ports = [(name, port) for port in range(1, MOST_PORTS + 1)]
        return [self.names[place] for place in ports if place in self.names]

    def names_from(self, name):
        """The name and those of all that hangs in it, each behind its hub."""
        found = [name]
        at = 0
        while at < len(found):
            found.extend(self.children(found[at]))
            at += 1
        return found

    def pull(self, name):
        """Pull a thing out, with all that hangs in it; the names of what went."""
        self.need_thing(name)
        spot = self.spots[name]
        self.hub_thing(spot.hub).turn_port(spot.port)
        gone = self.names_from(name)
        for one in gone:
            self.drop(one)
        return gone

    def drop(self, name):
        """Forget a thing and where it hung."""
        spot = self.spots[name]
        self.shut_port(spot.hub, spot.port)
        del self.names[(spot.hub, spot.port)]
        del self.spots[name]

    def shut_port(self, hub, port):
        """Shut a port off."""
        if (hub, port) in self.opened:
            del self.opened[(hub, port)]

    def reset_port(self, hub, port, frame):
        """Reset what hangs at a port, and open the port; all ports in a hub that hangs there are shut."""
        if (hub, port) not in self.names:
            return
        name = self.names[(hub, port)]
        for one in self.names_from(name):
            spot = self.spots[one]
            self.shut_port(spot.hub, spot.port)
        self.spots[name].thing.restart()
        self.opened[(hub, port)] = frame + OPENING

    def obey(self, name, frame):
        """Do at a hub's ports what the hub was told to."""
        order = self.spots[name].thing.take_order()
        if len(order) == 0:
            return
        if order[0] == "reset":
            self.reset_port(name, order[1], frame)
        else:
            self.shut_port(name, order[1])

    def is_heard(self, name, frame):
        """Whether all ports from the root down to a thing are open."""
        while name != ROOT:
            spot = self.spots[name]
            place = (spot.hub, spot.port)
            if place not in self.opened or self.opened[place] > frame:
                return False
            name = spot.hub
        return True

    def hearer(self, number, frame):
        """The name of the thing that hears a number, or the root's where none does or two do."""
        same = [name for name in self.spots if self.spots[name].thing.number == number]
        found = [name for name in same if self.is_heard(name, frame)]
        return found[0] if len(found) == 1 else ROOT

    def twin(self):
        """A tree like it, of things of its own."""
        other = Tree()
        other.root = self.root.twin()
        other.spots = {name: self.spots[name].twin() for name in self.spots}
        other.names = {place: self.names[place] for place in self.names}
        other.opened = {place: self.opened[place] for place in self.opened}
        return other
