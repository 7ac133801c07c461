"""The host: it looks at ports, sets up what hangs there, one port at a time, and gives everybody turns."""

from plugtree.asks import Ask, clearing
from plugtree.carrier import Carrier
from plugtree.errors import BadPlan, NoRoom, NoThing
from plugtree.plans import read_plan
from plugtree.ports import ASKING, DEAD, EMPTY, FIRST, NUMBERING, READY, REFUSED, RESET, SEEN, SETTING, SHUTTING, Ports
from plugtree.room import bare_table, let_in, with_end
from plugtree.tree import MOST_PORTS, ROOT

MOST_TRIES = 3
# Since when a port is to be shut off that shall be so in the next frame.
LONG_AGO = -1


class Host:
    """The host of a wire."""

    def __init__(self, wire):
        self.wire = wire
        self.carrier = Carrier(wire)
        self.ports = Ports()
        self.room_table = bare_table()
        # The place of the port that is set up, or ().
        self.current = ()
        # The place of the hub's port that was looked at last.
        self.looked = ()
        # What goes on: the look at a hub's port, the step of the port that is set up, the wish to clear.
        self.look = None
        self.step = None
        self.wish = None

    def run_frame(self):
        """Run one frame."""
        self.wire.begin_frame()
        self.look_at_root()
        self.carrier.timed_turns()
        self.look_at_hubs()
        self.set_up()
        self.shut_off()
        self.give_number()
        self.clear_pipes()
        self.carrier.bulk_turns()
        self.wire.end_frame()

    def look_at_root(self):
        """Look at each port of the root."""
        for port in range(1, MOST_PORTS + 1):
            self.learn((0, port), self.wire.tree.root.turns[port - 1] & 255)

    def look_at_hubs(self):
        """Ask a hub for one port; what a frame's end cuts goes on in the next one."""
        if self.look is None:
            place = self.next_look()
            if place == ():
                return
            self.looked = place
            self.look = Ask(place[0], ("port", place[1]))
        ask = self.look
        ask.pursue(self.wire)
        if ask.result == "":
            return
        self.look = None
        if ask.result == "done":
            self.learn((ask.number, ask.request[1]), ask.got[1])

    def next_look(self):
        """The place of the hub's port that is looked at next, or ()."""
        places = self.ports.of_hubs()
        behind = [place for place in places if place > self.looked]
        if len(behind) > 0:
            return behind[0]
        return min(places, default=())

    def learn(self, place, turned):
        """Learn how often a port turned; something hangs there behind each odd time."""
        port = self.ports.port_at(place)
        if port.turned == turned:
            return
        self.forget(place, "gone")
        port.turned = turned
        port.tries = 0
        if turned & 1 == 1:
            port.begin_shutting(SEEN, self.wire.frame)
        else:
            port.state = EMPTY
            port.loose = False

    def forget(self, place, cause):
        """Forget what hangs at a port and in it; the transfers fail by a cause."""
        port = self.ports.port_at(place)
        if port.state == READY:
            self.forget_thing(port.number, cause)
        self.give_room_back(port)
        port.forget()
        if self.current == place:
            self.current = ()
            self.step = None

    def forget_thing(self, number, cause):
        """Forget a thing that was ready, and what hangs in it."""
        for place in self.ports.of_hub(number):
            self.forget(place, cause)
            self.ports.drop(place)
        self.carrier.drop_thing(number, cause)
        if self.look is not None and self.look.number == number:
            self.look = None
        if self.wish is not None and self.wish.number == number:
            self.wish = None

    def give_room_back(self, port):
        """Give back the room that was set apart for what hangs at a port."""
        for end_place, phase in port.phases:
            for number, way, _, size, every in port.plan[3]:
                if (number, way) == end_place:
                    self.room_table = with_end(self.room_table, size, every, phase, -1)

    def set_up(self):
        """Go on with the port that is set up, or begin with one."""
        if self.current == ():
            self.pick()
        elif self.step is None:
            self.begin_first()
            return
        if self.step is not None:
            self.go_on(self.ports.port_at(self.current))

    def begin_first(self):
        """What was reset in the frame ahead is heard from the next one on: its device row is asked for then."""
        port = self.ports.port_at(self.current)
        if port.state == RESET:
            port.state = FIRST
            self.step = Ask(0, ("device",))

    def pick(self):
        """Begin with the least port that waits; nobody else may hear number 0 then."""
        waiting = self.ports.in_state(SEEN)
        if len(waiting) == 0 or self.ports.is_any_loose():
            return
        self.current = waiting[0]
        hub, number = self.current
        port = self.ports.port_at(self.current)
        port.state = RESET
        port.loose = True
        if hub == 0:
            self.wire.tree.reset_port(ROOT, number, self.wire.frame)
        else:
            self.step = Ask(hub, ("reset", number))

    def go_on(self, port):
        """Go on with the step of the port that is set up."""
        ask = self.step
        if port.state == RESET:
            # A look at the same hub may have come between.
            ask.begin_anew()
        ask.pursue(self.wire)
        if ask.result == "":
            return
        self.step = None
        if ask.result == "done":
            self.end_step(port, ask.got)
        else:
            self.fail(port)

    def end_step(self, port, got):
        """A step of the port that is set up is done."""
        if port.state == FIRST:
            port.device = got
        elif port.state == NUMBERING:
            port.state = ASKING
            self.step = Ask(port.number, ("settings",))
        elif port.state == ASKING:
            self.set_apart(port, got)
        elif port.state == SETTING:
            self.make_ready(port)

    def give_number(self):
        """Give the port that is set up a number, once nobody can hear one that is free."""
        if self.current == ():
            return
        port = self.ports.port_at(self.current)
        if port.state != FIRST or self.step is not None or self.ports.is_any_loose():
            return
        number = self.ports.least_free()
        if number == 0:
            self.leave(port, REFUSED)
            return
        port.state = NUMBERING
        port.number = number
        self.step = Ask(0, ("number", number))

    def set_apart(self, port, settings):
        """Read the plan of the port that is set up, and set room apart for it."""
        try:
            plan = read_plan(port.device, settings)
            table, phases = let_in(self.room_table, plan[3])
        except (BadPlan, NoRoom):
            self.leave(port, REFUSED)
            return
        self.room_table = table
        port.plan = plan
        port.phases = phases
        port.state = SETTING
        self.step = Ask(port.number, ("set", 1))

    def make_ready(self, port):
        """The port that is set up is ready."""
        port.state = READY
        self.current = ()
        self.carrier.add_thing(port.number, port.plan, port.phases)
        self.ports.add_hub(port.number, port.plan[2])

    def fail(self, port):
        """A step failed: the port is tried once more, or dead."""
        port.tries += 1
        self.leave(port, DEAD if port.tries == MOST_TRIES else SEEN)

    def leave(self, port, goal):
        """Leave the port that is set up: it is shut off, and then has another state."""
        self.forget(self.current, "gone")
        port.begin_shutting(goal, self.wire.frame)

    def shut_off(self):
        """Shut off what is to be since an earlier frame, those that may be open first."""
        places = self.ports.in_state(SHUTTING)
        loose = [place for place in places if self.ports.port_at(place).loose]
        others = [place for place in places if not self.ports.port_at(place).loose]
        for place in loose + others:
            port = self.ports.port_at(place)
            if port.since < self.wire.frame and self.shut(place):
                port.end_shutting()

    def shut(self, place):
        """Shut a port off; whether that was done."""
        hub, port = place
        if hub == 0:
            self.wire.tree.shut_port(ROOT, port)
            return True
        ask = Ask(hub, ("shut", port))
        ask.pursue(self.wire)
        return ask.result == "done"

    def clear_pipes(self):
        """Clear pipes as wished, one behind the other."""
        if self.wish is not None:
            # Something else may have been asked of the same thing between.
            self.wish.begin_anew()
        while self.wish is not None or self.begin_wish():
            ask = self.wish
            ask.pursue(self.wire)
            if ask.result == "":
                return
            self.wish = None
            self.carrier.end_wish(ask.result)

    def begin_wish(self):
        """Begin with the next wish to clear; whether there is one."""
        place = self.carrier.begin_wish()
        if place == ():
            return False
        self.wish = clearing(place[0], place[1], place[2])
        return True

    def reset(self, number):
        """Shut the port of a thing that is ready off, and set it up anew."""
        place = self.ports.place_of(number)
        if place == ():
            raise NoThing("no thing with such a number is ready")
        self.forget(place, "reset")
        port = self.ports.port_at(place)
        port.tries = 0
        port.begin_shutting(SEEN, LONG_AGO)

    def twin(self, wire):
        """A host like it, of another wire."""
        other = Host(wire)
        other.carrier = self.carrier.twin(wire)
        other.ports = self.ports.twin()
        other.room_table = self.room_table
        other.current = self.current
        other.looked = self.looked
        other.look = None if self.look is None else self.look.twin()
        other.step = None if self.step is None else self.step.twin()
        other.wish = None if self.wish is None else self.wish.twin()
        return other
