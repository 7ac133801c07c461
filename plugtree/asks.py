"""The host's asking: requests to endpoint 0, turn by turn."""

from plugtree.plans import address_of
from plugtree.requests import asks, request_bytes
from plugtree.things import ZERO_SIZE
from plugtree.wire import NOTHING

MOST_MISSES = 3


def clearing(number, endpoint, way):
    """The asking by which an endpoint is cleared."""
    return Ask(number, ("clear", address_of(endpoint, way)))


class Ask:
    """A request to a number; its result is empty while it goes on, then "done", "lost" or "stalled"."""

    def __init__(self, number, request):
        self.number = number
        self.request = request
        self.stage = "setup"
        self.mark = 1
        # The bytes that came.
        self.got = ()
        # How many turns running were without an answer.
        self.misses = 0
        self.result = ""

    def begin_anew(self):
        """Make a request that asks for no bytes again, as is needed where another one may have come between."""
        self.stage = "setup"

    def pursue(self, wire):
        """Ask till it is answered, or fails, or the frame has no more room."""
        while self.result == "" and wire.fits(ZERO_SIZE):
            self.turn(wire)

    def turn(self, wire):
        """One turn."""
        packet = self.said(wire)
        # An endpoint 0 that says nak has forgotten the request: there is no answer.
        if packet in (NOTHING, ("nak",)):
            self.misses += 1
            if self.misses == MOST_MISSES:
                self.result = "lost"
        elif packet == ("stall",):
            self.result = "stalled"
        else:
            self.misses = 0
            self.go_on(packet)

    def said(self, wire):
        """What is said to the next token."""
        if self.stage == "setup":
            data = ("data", 0, request_bytes(self.request))
            return wire.give(("setup", self.number, 0), data, ZERO_SIZE)
        if self.stage == "in":
            return wire.take(("in", self.number, 0), ZERO_SIZE)
        return wire.give(("out", self.number, 0), ("data", 1, ()), ZERO_SIZE)

    def go_on(self, packet):
        """Go on behind an answer."""
        if self.stage == "setup":
            self.stage = "in"
        elif self.stage == "in":
            self.take_piece(packet[1], packet[2])
        else:
            self.result = "done"

    def take_piece(self, mark, data):
        """Take a piece; one of the mark that isn't due came before."""
        if mark != self.mark:
            return
        self.mark = 1 - mark
        self.got = self.got + data
        if not asks(self.request):
            self.result = "done"
        elif len(data) < ZERO_SIZE:
            self.stage = "out"

    def twin(self):
        """An asking like it."""
        other = Ask(self.number, self.request)
        other.stage = self.stage
        other.mark = self.mark
        other.got = self.got
        other.misses = self.misses
        other.result = self.result
        return other
