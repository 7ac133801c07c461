"""What the host knows of ports, by (hub's number, port); the root's number is 0."""

from plugtree.tree import MOST_PORTS

EMPTY = "empty"
SEEN = "seen"
RESET = "reset"
FIRST = "first"
NUMBERING = "numbering"
ASKING = "asking"
SETTING = "setting"
READY = "ready"
SHUTTING = "shutting"
REFUSED = "refused"
DEAD = "dead"
MOST_NUMBER = 15


class Port:
    """What the host knows of one port; its number is 0 till one is given."""

    def __init__(self):
        self.state = EMPTY
        self.number = 0
        # How often it turned when it was looked at last, less 256 as often as it goes.
        self.turned = 0
        # How often the thing there was tried in vain.
        self.tries = 0
        # Whether what hangs there may be open: from the asking for its reset till it surely is shut off.
        self.loose = False
        # What the state is to be behind shutting, and the frame in which that began.
        self.goal = SEEN
        self.since = -1
        # What the thing there told, and the phases of its timed endpoints.
        self.device = ()
        self.plan = ()
        self.phases = []

    def forget(self):
        """Know nothing of what hangs there, but how often it was tried."""
        self.number = 0
        self.device = ()
        self.plan = ()
        self.phases = []

    def begin_shutting(self, goal, since):
        """It is to be shut off, and then to have another state."""
        self.state = SHUTTING
        self.goal = goal
        self.since = since

    def end_shutting(self):
        """It is shut off."""
        self.state = self.goal
        self.loose = False

    def twin(self):
        """A port like it."""
        other = Port()
        other.state = self.state
        other.number = self.number
        other.turned = self.turned
        other.tries = self.tries
        other.loose = self.loose
        other.goal = self.goal
        other.since = self.since
        other.device = self.device
        other.plan = self.plan
        other.phases = list(self.phases)
        return other


class Ports:
    """All ports of the root and of each hub that is set up."""

    def __init__(self):
        self.table = {}
        self.add_hub(0, MOST_PORTS)

    def add_hub(self, number, many):
        """Know a hub's ports, as if nothing had ever hung there."""
        for port in range(1, many + 1):
            self.table[(number, port)] = Port()

    def drop(self, place):
        """Know a port no more."""
        del self.table[place]

    def port_at(self, place):
        """What is known of a port."""
        return self.table[place]

    def of_hub(self, number):
        """The places of a hub's ports, rising."""
        return sorted([place for place in self.table if place[0] == number])

    def of_hubs(self):
        """The places of all ports but the root's, rising."""
        return sorted([place for place in self.table if place[0] != 0])

    def in_state(self, state):
        """The places of the ports of a state, rising."""
        return sorted([place for place in self.table if self.table[place].state == state])

    def is_any_loose(self):
        """Whether a port that is to be shut off may be open."""
        return any([self.table[place].loose for place in self.in_state(SHUTTING)])

    def least_free(self):
        """The least number that is free, or 0."""
        given = [self.table[place].number for place in self.table]
        free = [number for number in range(1, MOST_NUMBER + 1) if number not in given]
        return min(free, default=0)

    def place_of(self, number):
        """The place of the port whose thing is ready and has a number, or ()."""
        found = [place for place in self.in_state(READY) if self.table[place].number == number]
        return found[0] if len(found) > 0 else ()

    def told_rows(self):
        """A row for each port, rising: hub's number, port, state, number or 0."""
        return [place + (self.table[place].state, self.table[place].number) for place in sorted(self.table)]

    def twin(self):
        """Ports like these."""
        other = Ports()
        other.table = {place: self.table[place].twin() for place in self.table}
        return other
