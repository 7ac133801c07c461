"""The host's halves of pipes, and the transfers that go through them."""

from plugtree.asks import MOST_MISSES
from plugtree.bits import are_bytes
from plugtree.errors import BadNumber
from plugtree.halves import cut
from plugtree.wire import NOTHING

MOST_BYTES = 200
WAITING = "waiting"
DONE = "done"
FAILED = "failed"


def need_message(data):
    """Refuse a message that is too long, or has what is no byte."""
    if len(data) > MOST_BYTES or not are_bytes(data):
        raise BadNumber("such a message is none")


class Transfer:
    """A message to a thing ("send") or from one ("fetch"), or a wish to clear ("clear"), at a place of a pipe."""

    def __init__(self, word, place):
        self.word = word
        self.place = place
        self.state = WAITING
        self.cause = ""
        # What is still to be given, and the most that may be taken.
        self.pieces = []
        self.most = 0
        # The bytes that came, and how many pieces were acknowledged.
        self.got = ()
        self.given = 0

    def fail(self, cause):
        """Fail by a cause."""
        self.state = FAILED
        self.cause = cause

    def went(self):
        """The first piece was acknowledged."""
        self.pieces = self.pieces[1:]
        self.given += 1
        if len(self.pieces) == 0:
            self.state = DONE

    def take(self, data, size):
        """Take a piece from an endpoint of a size."""
        if len(self.got) + len(data) > self.most:
            self.fail("too much")
            return
        self.got = self.got + data
        self.given += 1
        if len(data) < size:
            self.state = DONE

    def twin(self):
        """A transfer like it."""
        other = Transfer(self.word, self.place)
        other.state = self.state
        other.cause = self.cause
        other.pieces = list(self.pieces)
        other.most = self.most
        other.got = self.got
        other.given = self.given
        return other


class Pipe:
    """The host's half of a pipe; its place is (number, endpoint, way)."""

    def __init__(self, place, size, every, phase):
        self.place = place
        self.size = size
        # 0 for a bulk pipe.
        self.every = every
        self.phase = phase
        self.mark = 0
        self.halted = False
        self.misses = 0
        # The numbers of the transfers that wait here.
        self.queue = []

    def cleared(self):
        """Both halves are cleared."""
        self.mark = 0
        self.halted = False
        self.misses = 0

    def pieces_of(self, data):
        """The pieces of a message."""
        return cut(data, self.size)

    def has_frame(self, frame):
        """Whether a frame is this timed pipe's."""
        return self.every > 0 and frame % self.every == self.phase

    def turn(self, wire, transfer):
        """One turn with the transfer that is first; whether the thing said nak."""
        number, endpoint, way = self.place
        token = (way, number, endpoint)
        if way == "out":
            packet = wire.give(token, ("data", self.mark, transfer.pieces[0]), self.size)
        else:
            packet = wire.take(token, self.size)
        if packet == NOTHING:
            self.miss(transfer)
        else:
            self.misses = 0
            self.go_on(packet, transfer)
        return packet == ("nak",)

    def miss(self, transfer):
        """A turn was without an answer."""
        self.misses += 1
        if self.misses == MOST_MISSES:
            transfer.fail("lost")

    def go_on(self, packet, transfer):
        """Go on behind an answer."""
        if packet == ("stall",):
            transfer.fail("stalled")
        elif packet == ("ack",):
            self.mark = 1 - self.mark
            transfer.went()
        elif packet[0] == "data" and packet[1] == self.mark:
            self.mark = 1 - self.mark
            transfer.take(packet[2], self.size)

    def twin(self):
        """A pipe like it."""
        other = Pipe(self.place, self.size, self.every, self.phase)
        other.mark = self.mark
        other.halted = self.halted
        other.misses = self.misses
        other.queue = list(self.queue)
        return other
