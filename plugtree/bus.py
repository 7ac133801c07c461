"""The bus: a tree of things, the wire, and the host that carries bytes to and from them."""

from plugtree.bits import need_number
from plugtree.host import Host
from plugtree.packets import packet_bytes
from plugtree.pipes import MOST_BYTES, need_message
from plugtree.tree import ROOT, Tree
from plugtree.wire import ANSWER_LOST, Wire

MOST_LET = 1000
MOST_FRAMES = 400


class Bus:
    """A bus with nothing at its root's ports."""

    def __init__(self):
        self.tree = Tree()
        self.wire = Wire(self.tree)
        self.host = Host(self.wire)

    def __eq__(self, other):
        return isinstance(other, Bus) and self.wire.rows == other.wire.rows and self.wire.frame == other.wire.frame

    def __len__(self):
        return len(self.wire.rows)

    def __repr__(self):
        return f"Bus at {self.wire.frame}, {len(self.tree.spots)} things"

    def plug(self, name, plan, hub="", port=1):
        """Plug a thing of a plan in at a hub's port, or at the root's, whose name is the empty text."""
        self.tree.plug(name, plan, hub, port)

    def pull(self, name):
        """Pull a thing out; the names of all that went, each behind its hub."""
        return self.tree.pull(name)

    def load(self, name, endpoint, data):
        """Let a thing have a message to give, behind what waits."""
        thing = self.tree.thing_of(name)
        need_message(data)
        thing.load(endpoint, data)

    def let(self, name, endpoint, many=1):
        """Let a thing have room for so many pieces more."""
        thing = self.tree.thing_of(name)
        need_number(many, 0, MOST_LET)
        thing.let(endpoint, many)

    def stall(self, name, endpoint, way="in"):
        """Halt an endpoint of a thing."""
        self.tree.thing_of(name).stall(endpoint, way)

    def came(self, name, endpoint):
        """The bytes that came to an endpoint of a thing."""
        return self.tree.thing_of(name).half(endpoint, "out")[3]

    def number_of(self, name):
        """The number of a thing that is ready, else 0."""
        thing = self.tree.thing_of(name)
        place = self.host.ports.place_of(thing.number)
        # Another thing may hang now where the host saw the one with such a number.
        return thing.number if place != () and place == self.place_of(name) else 0

    def place_of(self, name):
        """The place at which the host knows the port of a thing, or () where its hub isn't ready."""
        spot = self.tree.spots[name]
        if spot.hub == ROOT:
            return (0, spot.port)
        hub = self.number_of(spot.hub)
        return (hub, spot.port) if hub != 0 else ()

    def plan_of(self, number):
        """The plan of a thing that is ready, as it told it."""
        return self.host.carrier.plan_of(number)

    def seen(self):
        """What the host knows of each port: rows (hub's number, port, state, number or 0), rising."""
        return self.host.ports.told_rows()

    def room(self):
        """The room that timed endpoints take in each frame of a round."""
        return list(self.host.room_table)

    def send(self, number, endpoint, data):
        """Hand in a message to a thing; the transfer's number."""
        pipe = self.host.carrier.pipe(number, endpoint, "out")
        need_message(data)
        return self.host.carrier.send(pipe, data)

    def fetch(self, number, endpoint, most=200):
        """Ask for a message from a thing, of at most so many bytes; the transfer's number."""
        pipe = self.host.carrier.pipe(number, endpoint, "in")
        need_number(most, 0, MOST_BYTES)
        return self.host.carrier.fetch(pipe, most)

    def unstall(self, number, endpoint, way="in"):
        """Hand in a wish to clear a pipe; its number as a transfer."""
        return self.host.carrier.unstall(self.host.carrier.pipe(number, endpoint, way))

    def call_off(self, transfer):
        """Call a transfer off; whether it waited at a pipe."""
        return self.host.carrier.call_off(transfer)

    def told(self, transfer):
        """What became of a transfer: its state, the cause, the bytes that came, the pieces acknowledged."""
        found = self.host.carrier.transfer(transfer)
        return (found.state, found.cause, found.got, found.given)

    def reset(self, number):
        """Shut a thing's port off and set it up anew."""
        self.host.reset(number)

    def run(self, frames=1, fates=None):
        """Run so many frames; the fates come behind those that are not used up."""
        more = [] if fates is None else list(fates)
        need_number(frames, 0, MOST_FRAMES)
        for fate in more:
            need_number(fate, 0, ANSWER_LOST)
        self.wire.fates.extend(more)
        for _ in range(frames):
            self.host.run_frame()

    def now(self):
        """The next frame's number."""
        return self.wire.frame

    def journal(self):
        """The rows of all packets that were said."""
        return list(self.wire.rows)

    def spoken(self):
        """The bytes of all packets that were said."""
        return [packet_bytes(row[2]) for row in self.wire.rows]

    def twin(self):
        """A bus like it, which goes its own way."""
        other = Bus()
        other.tree = self.tree.twin()
        other.wire = self.wire.twin(other.tree)
        other.host = self.host.twin(other.wire)
        return other
