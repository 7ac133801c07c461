"""The host's carrying of messages: the pipes of things that are ready, and the turns that they have."""

from plugtree.errors import Halted, NoEnd, NoThing, NoTransfer
from plugtree.pipes import DONE, FAILED, WAITING, Pipe, Transfer

WISH = "clear"


class Carrier:
    """The pipes of things that are ready, by (number, endpoint, way), and all transfers there were."""

    def __init__(self, wire):
        self.wire = wire
        self.plans = {}
        self.pipes = {}
        self.transfers = []
        # The numbers of the wishes to clear that wait.
        self.wishes = []
        # The bulk pipe that had the last turn.
        self.last = ()

    def add_thing(self, number, plan, phases):
        """Begin with a thing that is ready."""
        self.plans[number] = plan
        phase_at = {place: phase for place, phase in phases}
        for endpoint, way, _, size, every in plan[3]:
            phase = phase_at.get((endpoint, way), 0)
            self.pipes[(number, endpoint, way)] = Pipe((number, endpoint, way), size, every, phase)

    def drop_thing(self, number, cause):
        """Forget a thing that was ready; its transfers fail by a cause."""
        del self.plans[number]
        for place in list(self.pipes):
            if place[0] == number:
                self.empty(self.pipes[place], cause)
                del self.pipes[place]
        for wish in self.wishes:
            if self.transfer(wish).place[0] == number:
                self.transfer(wish).fail(cause)
        self.wishes = [wish for wish in self.wishes if self.transfer(wish).state == WAITING]

    def plan_of(self, number):
        """The plan of a thing that is ready."""
        if number not in self.plans:
            raise NoThing("no thing with such a number is ready")
        return self.plans[number]

    def pipe(self, number, endpoint, way):
        """The pipe of an endpoint of a thing that is ready."""
        self.plan_of(number)
        if (number, endpoint, way) not in self.pipes:
            raise NoEnd("the thing has no such endpoint")
        return self.pipes[(number, endpoint, way)]

    def transfer(self, number):
        """The transfer of a number."""
        if not 1 <= number <= len(self.transfers):
            raise NoTransfer("there was no such transfer")
        return self.transfers[number - 1]

    def send(self, pipe, data):
        """Let a message to a thing wait; the transfer's number."""
        transfer = Transfer("send", pipe.place)
        transfer.pieces = pipe.pieces_of(data)
        return self.join_pipe(pipe, transfer)

    def fetch(self, pipe, most):
        """Let a message from a thing be waited for; the transfer's number."""
        transfer = Transfer("fetch", pipe.place)
        transfer.most = most
        return self.join_pipe(pipe, transfer)

    def join_pipe(self, pipe, transfer):
        """Let a transfer wait at a pipe; its number."""
        if pipe.halted:
            raise Halted("the pipe is halted")
        self.transfers.append(transfer)
        pipe.queue.append(len(self.transfers))
        return len(self.transfers)

    def unstall(self, pipe):
        """Let a wish to clear a pipe wait; its number as a transfer."""
        self.halt(pipe)
        self.transfers.append(Transfer(WISH, pipe.place))
        self.wishes.append(len(self.transfers))
        return len(self.transfers)

    def empty(self, pipe, cause):
        """Let all that waits at a pipe fail by a cause."""
        for number in pipe.queue:
            if self.transfer(number).state == WAITING:
                self.transfer(number).fail(cause)
        pipe.queue = []

    def halt(self, pipe):
        """Halt a pipe."""
        self.empty(pipe, "halted")
        pipe.halted = True

    def call_off(self, number):
        """Call a transfer off; whether it waited at a pipe."""
        transfer = self.transfer(number)
        if transfer.word == WISH or transfer.state != WAITING:
            return False
        transfer.fail("called off")
        self.halt(self.pipes[transfer.place])
        return True

    def begin_wish(self):
        """The place of the pipe that is to be cleared next, which is halted, or () where none is."""
        if len(self.wishes) == 0:
            return ()
        place = self.transfer(self.wishes[0]).place
        self.halt(self.pipes[place])
        return place

    def end_wish(self, result):
        """The first wish to clear came to its end."""
        transfer = self.transfer(self.wishes.pop(0))
        if result == DONE:
            self.pipes[transfer.place].cleared()
            transfer.state = DONE
        else:
            transfer.fail(result)

    def turn(self, pipe):
        """One turn of a pipe at which something waits; whether the thing said nak."""
        transfer = self.transfer(pipe.queue[0])
        rests = pipe.turn(self.wire, transfer)
        if transfer.state == DONE:
            pipe.queue.pop(0)
        elif transfer.state == FAILED:
            self.halt(pipe)
        return rests

    def timed_turns(self):
        """The turns of the timed pipes whose frame this is."""
        for place in sorted(self.pipes):
            pipe = self.pipes[place]
            if pipe.has_frame(self.wire.frame) and len(pipe.queue) > 0:
                self.turn(pipe)

    def bulk_turns(self):
        """The turns of the bulk pipes, in rounds, till none has room; who says nak rests till the next frame."""
        resting = {}
        place = self.next_bulk(resting)
        while place != ():
            self.last = place
            if self.turn(self.pipes[place]):
                resting[place] = True
            place = self.next_bulk(resting)

    def next_bulk(self, resting):
        """The place of the bulk pipe whose turn is next, or ()."""
        places = [place for place in self.pipes if place not in resting and self.may_turn(self.pipes[place])]
        behind = [place for place in places if place > self.last]
        if len(behind) > 0:
            return min(behind)
        return min(places, default=())

    def may_turn(self, pipe):
        """Whether something waits at a bulk pipe, and the frame has room for it."""
        return pipe.every == 0 and len(pipe.queue) > 0 and self.wire.fits(pipe.size)

    def twin(self, wire):
        """A carrier like it, at another wire."""
        other = Carrier(wire)
        other.plans = dict(self.plans)
        other.pipes = {place: self.pipes[place].twin() for place in self.pipes}
        other.transfers = [transfer.twin() for transfer in self.transfers]
        other.wishes = list(self.wishes)
        other.last = self.last
        return other
