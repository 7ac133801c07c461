"""Things: what hangs at the ports, and what it answers to a host."""

from plugtree.errors import BadRequest, NoEnd
from plugtree.halves import asked, cleared, cut, heard, in_half, out_half, went
from plugtree.plans import device_row, need_plan, place_of, settings_row
from plugtree.requests import asks, read_request

ZERO_SIZE = 8
PORT_REQUESTS = ("port", "reset", "shut")
# What endpoint 0 is at.
IDLE = "idle"
STALLED = "stalled"
GIVING = "giving"
WANTING = "wanting"


def fresh_half(way):
    """The fresh half of an endpoint of a way."""
    return in_half() if way == "in" else out_half()


class Thing:
    """A thing of a plan, a hub where its plan has ports."""

    def __init__(self, plan):
        need_plan(plan)
        self.plan = plan
        self.number = 0
        self.level = 0
        self.halves = {}
        self.doing = IDLE
        self.request = ()
        self.met = False
        self.giving = in_half()
        # How often each port turned: behind each odd time something hangs there.
        self.turns = [0] * plan[2]
        # What is to be done at a port, for whoever knows what hangs there.
        self.order = ()

    def restart(self):
        """Bring it back to how it began; its ports keep how often they turned."""
        self.number = 0
        self.set_up(0)
        self.doing = IDLE

    def set_up(self, level):
        """Take a level, each half fresh at level 1."""
        self.level = level
        ends = self.plan[3] if level == 1 else ()
        self.halves = {end[:2]: fresh_half(end[1]) for end in ends}

    def hear_setup(self, data):
        """Take a request, good or not, to endpoint 0."""
        self.doing = STALLED
        try:
            request = read_request(data)
        except BadRequest:
            return "ack"
        if self.can_meet(request):
            self.begin(request)
        return "ack"

    def can_meet(self, request):
        """Whether it can do what a request asks for or wants."""
        if request[0] in PORT_REQUESTS:
            return 1 <= request[1] <= len(self.turns)
        if request[0] == "clear":
            return place_of(request[1]) in self.halves
        return True

    def begin(self, request):
        """Begin with a request that can be met."""
        self.request = request
        if asks(request):
            self.doing = GIVING
            self.giving = (1, False, tuple(cut(self.row_for(request), ZERO_SIZE)))
        else:
            self.doing = WANTING
            self.met = False

    def row_for(self, request):
        """The bytes that a request asks for."""
        if request[0] == "device":
            return device_row(self.plan)
        if request[0] == "settings":
            return settings_row(self.plan)
        turned = self.turns[request[1] - 1]
        return (turned & 1, turned & 255)

    def meet(self):
        """Do what a request wants; a number is taken only when the answer came."""
        word, what = self.request
        if word == "set":
            self.set_up(what)
        elif word == "clear":
            place = place_of(what)
            self.halves[place] = cleared(self.halves[place])
        elif word in PORT_REQUESTS:
            self.order = self.request
        self.met = True

    def hear_in(self, endpoint):
        """What it says when it is asked: a packet, or None where nobody answers."""
        if endpoint == 0:
            return self.hear_zero_in()
        if (endpoint, "in") not in self.halves:
            return None
        return asked(self.halves[(endpoint, "in")])

    def hear_zero_in(self):
        """What endpoint 0 says when it is asked."""
        if self.doing == STALLED:
            return ("stall",)
        if self.doing == GIVING:
            return asked(self.giving)
        if self.doing == IDLE:
            return ("nak",)
        if not self.met:
            self.meet()
        return ("data", 1, ())

    def hear_went(self, endpoint):
        """Learn that what it gave has come."""
        if endpoint == 0:
            self.hear_zero_went()
        elif (endpoint, "in") in self.halves:
            self.halves[(endpoint, "in")] = went(self.halves[(endpoint, "in")])

    def hear_zero_went(self):
        """Learn that what endpoint 0 gave has come."""
        if self.doing == GIVING:
            self.giving = went(self.giving)
        elif self.doing == WANTING and self.met:
            if self.request[0] == "number":
                self.number = self.request[1]
            self.doing = IDLE

    def hear_out(self, endpoint, mark, data):
        """What it answers to a piece, or None where nobody answers."""
        if endpoint == 0:
            return self.hear_zero_out(mark, data)
        if (endpoint, "out") not in self.halves:
            return None
        half, answer = heard(self.halves[(endpoint, "out")], mark, data)
        self.halves[(endpoint, "out")] = half
        return answer

    def hear_zero_out(self, mark, data):
        """What endpoint 0 answers to a piece: only one that ends what it gives, or ended it, is taken."""
        if self.doing not in (GIVING, IDLE) or mark != 1 or len(data) > 0:
            return "stall"
        self.doing = IDLE
        return "ack"

    def need_half(self, endpoint, way):
        """Refuse an endpoint that has no half."""
        if (endpoint, way) not in self.halves:
            raise NoEnd("no such endpoint is set up")

    def half(self, endpoint, way):
        """The half of an endpoint."""
        self.need_half(endpoint, way)
        return self.halves[(endpoint, way)]

    def size_of(self, endpoint, way):
        """The size of an endpoint of the plan."""
        return [end[3] for end in self.plan[3] if end[:2] == (endpoint, way)][0]

    def load(self, endpoint, data):
        """Put a message behind what waits to be given."""
        mark, halted, pieces = self.half(endpoint, "in")
        more = tuple(cut(data, self.size_of(endpoint, "in")))
        self.halves[(endpoint, "in")] = (mark, halted, pieces + more)

    def let(self, endpoint, many):
        """Let an endpoint have room for so many pieces more."""
        mark, halted, room, came = self.half(endpoint, "out")
        self.halves[(endpoint, "out")] = (mark, halted, room + many, came)

    def stall(self, endpoint, way):
        """Halt an endpoint."""
        half = self.half(endpoint, way)
        self.halves[(endpoint, way)] = (half[0], True) + half[2:]

    def turn_port(self, port):
        """Something is plugged in at a port, or pulled out."""
        self.turns[port - 1] += 1

    def take_order(self):
        """What is to be done at a port since this was asked last, a request, or ()."""
        order = self.order
        self.order = ()
        return order

    def twin(self):
        """A thing like it."""
        other = Thing(self.plan)
        other.number = self.number
        other.level = self.level
        other.halves = {place: self.halves[place] for place in self.halves}
        other.doing = self.doing
        other.request = self.request
        other.met = self.met
        other.giving = self.giving
        other.turns = list(self.turns)
        other.order = self.order
        return other
