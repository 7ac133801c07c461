"""A bus under watch: what points 10, 13, 15, 16 and 17 promise is looked at behind each frame."""

import collections

from plugtree.bus import Bus
from plugtree.halves import cut
from plugtree.journal import first_wrong
from plugtree.packets import read_packet
from plugtree.room import bare_table, with_end
from tests.said_tree import SaidTree

STATES = (
    "empty", "seen", "reset", "first", "numbering", "asking", "setting", "ready", "shutting", "refused", "dead",
)
NUMBERED = ("numbering", "asking", "setting", "ready")
SETTLED = ("empty", "ready", "refused", "dead")
CAUSES = ("lost", "stalled", "too much", "called off", "halted", "gone", "reset")
# One a port and frame: the plan of each thing that the watch plugs in is its own, by maker and model.
FRAMES_FOR_A_PORT = 12


def picture(value):
    """All that an object holds, whatever it is made of, to be compared."""
    if isinstance(value, dict):
        return {key: picture(value[key]) for key in value}
    if isinstance(value, (list, tuple)):
        return [type(value).__name__] + [picture(one) for one in value]
    if hasattr(value, "__dict__"):
        return [type(value).__name__, picture(vars(value))]
    return value


def joined(pieces):
    return tuple(byte for piece in pieces for byte in piece)


class Sent:
    """A message that was handed in for a thing."""

    def __init__(self, number, pieces):
        self.number = number
        self.pieces = pieces


class Life:
    """A thing from the time that it is ready to the time that it isn't."""

    def __init__(self, number):
        self.number = number
        self.sent = collections.defaultdict(list)
        self.loaded = collections.defaultdict(list)
        self.fetched = collections.defaultdict(list)


class Watched:
    """A bus, driven by names, and a test that fails where a promise is broken."""

    def __init__(self, test, replay=False):
        self.test = test
        self.bus = Bus()
        # Where it is asked for, all that things say is held against a second writing of them and of the tree.
        self.said = SaidTree(test) if replay else None
        self.plans = {}
        self.lives = {}
        # Number of a transfer: (life, endpoint, way, word).
        self.transfers = {}
        self.ended = {}

    # What is done at it.

    def plug(self, name, plan, hub="", port=1):
        self.bus.plug(name, plan, hub, port)
        self.plans[name] = plan
        if self.said:
            self.said.plug(name, plan, hub, port)

    def pull(self, name):
        for one in self.bus.pull(name):
            del self.plans[one]
            self.lives.pop(one, None)
        if self.said:
            self.said.pull(name)

    def let(self, name, endpoint, many):
        self.bus.let(name, endpoint, many)
        if self.said:
            self.said.things[name].let(endpoint, many)

    def stall(self, name, endpoint, way):
        self.bus.stall(name, endpoint, way)
        if self.said:
            self.said.things[name].stall(endpoint, way)

    def load(self, name, endpoint, data):
        self.bus.load(name, endpoint, data)
        if self.said:
            self.said.things[name].load(endpoint, data)
        if name in self.lives:
            self.lives[name].loaded[endpoint].append(data)

    def send(self, name, endpoint, data):
        life = self.lives[name]
        number = self.bus.send(life.number, endpoint, data)
        life.sent[endpoint].append(Sent(number, cut(data, self.size_of(name, endpoint, "out"))))
        self.transfers[number] = (life, endpoint, "out", "send")
        return number

    def fetch(self, name, endpoint, most=200):
        life = self.lives[name]
        number = self.bus.fetch(life.number, endpoint, most)
        self.transfers[number] = (life, endpoint, "in", "fetch")
        life.fetched[endpoint].append(number)
        return number

    def unstall(self, name, endpoint, way):
        number = self.bus.unstall(self.lives[name].number, endpoint, way)
        self.transfers[number] = (self.lives[name], endpoint, way, "clear")
        return number

    def reset(self, name):
        self.bus.reset(self.lives.pop(name).number)
        self.notice_lives()

    def run(self, frames=1, fates=None):
        """Run frame by frame, and look at all behind each."""
        for k in range(frames):
            ahead = self.endings()
            many, rows = len(self.bus), self.bus.seen()
            self.bus.run(1, fates if k == 0 else None)
            if self.said:
                self.said.run_frame(self.bus.journal()[many:], rows, self.bus.seen())
            self.look(ahead)

    # What is looked at.

    def size_of(self, name, endpoint, way):
        return [end[3] for end in self.plans[name][3] if end[:2] == (endpoint, way)][0]

    def endings(self):
        return {number: self.bus.told(number) for number in self.transfers if number not in self.ended}

    def look(self, ahead):
        self.notice_fetched(ahead)
        self.notice_lives()
        self.look_at_rows()
        self.look_at_numbers()
        self.look_at_room()
        for name, life in self.lives.items():
            self.look_at_came(name, life)

    def notice_lives(self):
        """Things that are ready, from now on, and such as aren't any more."""
        for name in self.plans:
            number = self.bus.number_of(name)
            if name in self.lives and self.lives[name].number != number:
                del self.lives[name]
            if number != 0 and name not in self.lives:
                self.lives[name] = Life(number)

    def notice_fetched(self, ahead):
        """Transfers from things, and clears, that ended or went on, in the order in which they were handed in."""
        test = self.test
        for number in sorted(ahead):
            state, cause, data, _ = self.bus.told(number)
            life, endpoint, way, word = self.transfers[number]
            test.assertIn(state, ("waiting", "done", "failed"))
            test.assertEqual(state == "failed", cause in CAUSES)
            test.assertEqual(state != "failed", cause == "")
            if word == "fetch":
                waiting = life.loaded[endpoint]
                if data != () or state == "done":
                    test.assertEqual(waiting[0][:len(data)], data)
                if state == "done":
                    test.assertEqual(waiting.pop(0), data)
            if word == "clear" and state == "done" and way == "in":
                life.loaded[endpoint].clear()
            if state != "waiting":
                self.ended[number] = (state, cause, data)
        for number, found in self.ended.items():
            test.assertEqual(found, self.bus.told(number)[:3])

    def look_at_rows(self):
        rows = self.bus.seen()
        test = self.test
        test.assertEqual(sorted(rows), rows)
        places = [row[:2] for row in rows]
        test.assertEqual(len(places), len(set(places)))
        numbers = [row[3] for row in rows if row[3] != 0]
        test.assertEqual(len(numbers), len(set(numbers)))
        for hub, port, state, number in rows:
            test.assertIn(state, STATES)
            test.assertEqual(state in NUMBERED, number in range(1, 16), (state, number))
        hubs = {number: self.bus.plan_of(number)[2] for _, _, state, number in rows if state == "ready"}
        due = [(0, port) for port in range(1, 5)]
        due += [(hub, port) for hub, many in hubs.items() for port in range(1, many + 1)]
        test.assertEqual(sorted(due), places)
        busy = [row for row in rows if row[2] in ("reset", "first", "numbering", "asking", "setting")]
        test.assertLessEqual(len(busy), 1)

    def hearers(self, number):
        """Who hears a number in the next frame."""
        if self.said:
            return self.said.hearers(number, self.bus.now())
        tree = self.bus.tree
        return [name for name in self.plans
                if tree.spots[name].thing.number == number and tree.is_heard(name, self.bus.now())]

    def look_at_numbers(self):
        test = self.test
        test.assertLessEqual(len(self.hearers(0)), 1)
        ready = {name: self.bus.number_of(name) for name in self.plans if self.bus.number_of(name) != 0}
        test.assertEqual(len(ready), len(set(ready.values())))
        told = {number for _, _, state, number in self.bus.seen() if state == "ready"}
        test.assertLessEqual(set(ready.values()), told)
        for name, number in ready.items():
            test.assertEqual([name], self.hearers(number))
            test.assertEqual(self.plans[name], self.bus.plan_of(number))
        for number in told - set(ready.values()):
            test.assertEqual([], self.hearers(number))

    def look_at_room(self):
        """The table is that of all things that have room, whatever their phases."""
        room = self.bus.room()
        self.test.assertEqual(32, len(room))
        self.test.assertLessEqual(max(room), 1350)
        self.test.assertGreaterEqual(min(room), 0)
        table = bare_table()
        for port in self.bus.host.ports.table.values():
            for place, phase in port.phases:
                end = [end for end in port.plan[3] if end[:2] == place][0]
                table = with_end(table, end[3], end[4], phase)
        self.test.assertEqual(list(table), room)

    def look_at_came(self, name, life):
        """What came is all that was acknowledged, and behind a transfer that isn't done perhaps one piece more."""
        for endpoint, sent in life.sent.items():
            came = self.bus.came(name, endpoint)
            may_be = {()}
            for one in sent:
                state, _, _, many = self.bus.told(one.number)
                self.test.assertLessEqual(many, len(one.pieces))
                self.test.assertEqual(state == "done", many == len(one.pieces))
                whole = joined(one.pieces[:many])
                more = () if state == "done" else joined(one.pieces[many:many + 1])
                may_be = {data + whole for data in may_be} | {data + whole + more for data in may_be}
                may_be = {data for data in may_be if came[:len(data)] == data}
            self.test.assertIn(came, may_be)

    # What is looked at now and then.

    def look_at_journal(self):
        rows = self.bus.journal()
        self.test.assertEqual(-1, first_wrong(rows))
        self.test.assertEqual([row[2] for row in rows], [read_packet(row) for row in self.bus.spoken()])
        self.test.assertEqual(len(rows), len(self.bus))

    def calm_frames(self):
        """As many frames as things may take till each is settled."""
        hubs = sum(plan[2] for plan in self.plans.values())
        return (hubs + FRAMES_FOR_A_PORT + 2) * (len(self.plans) + 2)

    def settle(self):
        """Run calm frames till all is settled, and look that it is soon enough."""
        self.bus.wire.fates.clear()
        self.settle_with_fates()

    def settle_with_fates(self):
        """Run frames with what fates there are till all is settled, as it is to stay."""
        calm = 0
        for _ in range(self.calm_frames() + len(self.bus.wire.fates)):
            self.run()
            calm = calm + 1 if self.is_settled() else 0
            # Each port was looked at meanwhile.
            if calm > len(self.bus.seen()) - 4:
                return
        self.test.fail(("not settled", self.bus.seen()))

    def is_settled(self):
        """Whether the host knows what hangs where, and is done with it."""
        if {row[2] for row in self.bus.seen()} - set(SETTLED):
            return False
        known = [row for row in self.bus.seen() if row[2] != "empty"]
        return len(known) == len(self.reachable())

    def reachable(self):
        """What hangs at ports that the host knows."""
        return [name for name in self.plans if self.bus.tree.spots[name].hub in [""] + list(self.lives)]
