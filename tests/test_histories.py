"""Points 1, 13, 15, 16 and 17 over a great many histories that are drawn: see tests/watch.py for what is looked at."""

import random

from plugtree.bus import Bus
from plugtree.errors import BusError, Halted, Missing, NoEnd
from tests.base import Case
from tests.built import states
from tests.test_hubs import looks
from tests.watch import FRAMES_FOR_A_PORT, Watched, picture

BULK_SIZES = (8, 16, 32, 64)
PERIODS = (1, 2, 4, 8, 16, 32)
BUSY = ("reset", "first", "numbering", "asking", "setting")


class Drawn:
    """One history: what is done at a bus, drawn from a seed."""

    def __init__(self, test, seed):
        self.drawn = random.Random(seed)
        self.watched = Watched(test, replay=True)
        self.bad = self.drawn.choice((0, 0.05, 0.2, 0.5, 0.9))
        # Some have much timed load.
        self.timed = self.drawn.choice((0.1, 0.5, 1))
        self.serial = 0

    def plan(self):
        """A plan that no other thing has."""
        drawn, ends = self.drawn, []
        for number in range(1, 8):
            for way in ("in", "out"):
                if drawn.random() < 0.35 and len(ends) < 8:
                    if drawn.random() < self.timed:
                        size = drawn.choice((1, 5, 8, 30, 64, 64))
                        ends.append((number, way, "timed", size, drawn.choice(PERIODS[:1] if self.timed == 1 else PERIODS)))
                    else:
                        ends.append((number, way, "bulk", drawn.choice(BULK_SIZES), 0))
        self.serial += 1
        return (self.serial, drawn.randrange(65536), drawn.choice((0, 0, 1, 2, 3, 4, 4)), tuple(ends))

    def fates(self, many):
        return [self.drawn.choice((1, 2, 3)) if self.drawn.random() < self.bad else 0 for _ in range(many)]

    def plug(self):
        name = "".join(self.drawn.choice("abc") for _ in range(self.drawn.randrange(1, 5)))
        hub = self.drawn.choice([""] + list(self.watched.plans) * 2)
        self.watched.plug(name, self.plan(), hub, self.drawn.randrange(1, 5))

    def pull(self):
        self.watched.pull(self.drawn.choice(list(self.watched.plans)))

    def exchange(self):
        """Pull something out, and plug something in at its place at once, so that the host has seen nothing."""
        name = self.drawn.choice(list(self.watched.plans))
        spot = self.watched.bus.tree.spots[name]
        self.watched.pull(name)
        self.watched.plug(name, self.plan(), spot.hub, spot.port)

    def reset(self):
        self.watched.reset(self.drawn.choice(list(self.watched.lives)))

    def message(self, size):
        many = self.drawn.choice((0, 1, size - 1, size, size + 1, 2 * size, 200, self.drawn.randrange(200)))
        return tuple(self.drawn.randrange(256) for _ in range(min(many, 200)))

    def carry(self):
        """Something at an endpoint of a thing that is ready."""
        drawn, watched = self.drawn, self.watched
        name = drawn.choice(list(watched.lives))
        number, way, _, size, _ = drawn.choice(watched.plans[name][3])
        what = drawn.random()
        if what < 0.06:
            watched.unstall(name, number, way)
        elif what < 0.1:
            watched.stall(name, number, way)
        elif what < 0.16:
            watched.bus.call_off(drawn.choice(list(watched.transfers)))
        elif what < 0.5 and way == "out":
            watched.let(name, number, drawn.choice((0, 1, 2, 30)))
        elif what < 0.5:
            watched.load(name, number, self.message(size))
        else:
            self.hand_in(name, number, way, size)

    def hand_in(self, name, number, way, size):
        try:
            if way == "out":
                self.watched.send(name, number, self.message(size))
            else:
                self.watched.fetch(name, number, self.drawn.choice((200, 200, 200, size, 10, 0)))
        except Halted:
            if self.drawn.random() < 0.7:
                self.watched.unstall(name, number, way)

    def do(self):
        """One thing of all; some can't be done."""
        what = self.drawn.random()
        try:
            if what < 0.2:
                self.plug()
            elif what < 0.24:
                self.pull()
            elif what < 0.28:
                self.exchange()
            elif what < 0.31:
                self.reset()
            else:
                for _ in range(4):
                    self.carry()
        except (BusError, Missing, IndexError):
            # Refused, or nothing is there to be drawn.
            return

    def grow(self):
        """Plug much in at once."""
        for _ in range(60):
            try:
                self.plug()
            except (BusError, Missing):
                continue

    def run(self, steps=40):
        if self.drawn.random() < 0.4:
            self.grow()
            self.watched.run(self.drawn.randrange(150))
        for _ in range(steps):
            self.do()
            frames = self.drawn.choice((0, 1, 1, 2, 3, 9))
            self.watched.run(frames, self.fates(self.drawn.randrange(40)))
        return self.watched


class UnderAllFates(Case):
    def test_what_is_promised_at_every_time(self):
        ended, found = set(), set()
        for seed in range(150):
            with self.subTest(seed=seed):
                watched = Drawn(self, seed).run()
                watched.look_at_journal()
                watched.settle()
                self.halves_as_said(watched)
                self.looks_at_each_port(watched)
                watched.look_at_journal()
                ended |= {told[:2] for told in watched.ended.values()}
                found |= set(states(watched.bus).values())
        # All that can become of a transfer and of a port did.
        self.assertEqual({("done", "")} | {("failed", cause) for cause in (
            "lost", "stalled", "too much", "called off", "halted", "gone", "reset")}, ended)
        self.assertEqual({"empty", "ready", "refused", "dead"}, found)

    def halves_as_said(self, watched):
        """What came to things is what the second writing says."""
        for name, plan in watched.plans.items():
            for number, way, _, _, _ in plan[3]:
                half = watched.said.things[name].half(number, way)
                if half is None:
                    self.refuses(NoEnd, watched.bus.came, name, number)
                elif way == "out":
                    self.assertEqual(half[3], watched.bus.came(name, number))

    def looks_at_each_port(self, watched):
        """In as many calm frames as there are ports of hubs each of them is looked at."""
        ports = {row[:2] for row in watched.bus.seen() if row[0] != 0}
        since = len(watched.bus)
        watched.run(len(ports))
        self.assertEqual(ports, {place for _, place in looks(watched.bus, since)})

    def test_a_port_takes_at_most_twelve_frames(self):
        """Behind all fates, once the host has come to a port."""
        longest = 0
        for seed in range(200, 230):
            history = Drawn(self, seed)
            watched = history.run(10)
            watched.settle()
            history.grow()
            taken = {}
            for _ in range(watched.calm_frames()):
                watched.bus.run()
                now = {place for place, state in states(watched.bus).items() if state in BUSY}
                taken = {place: taken.get(place, 0) + 1 for place in now}
                longest = max([longest] + list(taken.values()))
        # A port that is ready behind the last one has taken one frame more.
        self.assertLessEqual(longest + 1, FRAMES_FOR_A_PORT)

    def test_all_is_settled_again_and_again(self):
        for seed in range(300, 320):
            history = Drawn(self, seed)
            for _ in range(3):
                history.run(8)
                history.watched.settle()


class Repeated(Case):
    """One history, one run."""

    def actions(self, seed):
        """Calls of a bus, by names and arguments, of which many are refused."""
        history = Drawn(self, seed)
        drawn = history.drawn
        for _ in range(120):
            name = "".join(drawn.choice("ab") for _ in range(drawn.randrange(0, 3)))
            number, endpoint, way = drawn.randrange(6), drawn.randrange(8), drawn.choice(("in", "out"))
            data = tuple(drawn.randrange(256) for _ in range(drawn.choice((0, 1, 8, 40, 200, 201))))
            yield drawn.choice((
                ("plug", name, history.plan(), drawn.choice(("", "a", "b", "ab", "ba")), drawn.randrange(1, 5)),
                ("plug", name, history.plan(), "", drawn.randrange(0, 6)), ("pull", name), ("reset", number),
                ("load", name, endpoint, data), ("let", name, endpoint, drawn.randrange(-1, 9)),
                ("stall", name, endpoint, way), ("came", name, endpoint), ("number_of", name), ("plan_of", number),
                ("seen",), ("room",), ("send", number, endpoint, data), ("fetch", number, endpoint, drawn.randrange(201)),
                ("unstall", number, endpoint, way), ("call_off", drawn.randrange(20)), ("told", drawn.randrange(20)),
                ("now",), ("journal",), ("spoken",), ("run", drawn.randrange(15), history.fates(30)),
                ("run", drawn.randrange(25), None), ("run", drawn.randrange(25), None),
            ))

    def done(self, bus, action):
        """What a call tells, or the error by which it is refused."""
        try:
            return getattr(bus, action[0])(*action[1:])
        except (BusError, Missing) as error:
            return (type(error), vars(error))

    def test_the_same_history_gives_the_same_journal(self):
        for seed in range(40):
            one, other, apart = Bus(), Bus(), Bus()
            for action in self.actions(seed):
                told = self.done(one, action)
                if action[0] == "run":
                    # Frame by frame.
                    other.run(0, action[2])
                    for _ in range(action[1]):
                        other.run()
                else:
                    self.assertEqual(told, self.done(other, action))
                self.assertEqual(one, other)
            self.assertEqual(picture(one), picture(other))
            self.assertEqual(picture(Bus()), picture(apart))

    def test_a_twin_goes_its_own_way(self):
        for seed in range(40, 60):
            bus = Bus()
            actions = list(self.actions(seed))
            for k, action in enumerate(actions):
                if k % 20 == 7:
                    twin, kept = bus.twin(), picture(bus)
                    self.assertEqual(kept, picture(twin))
                    for later in actions[k:k + 25]:
                        self.done(twin, later)
                    self.assertEqual(kept, picture(bus))
                    behind = bus.twin()
                    for later in actions[k:k + 25]:
                        self.done(behind, later)
                    self.assertEqual(picture(behind), picture(twin))
                self.done(bus, action)

    def test_refusals_and_questions_leave_all_as_it_was(self):
        questions = ("came", "number_of", "plan_of", "seen", "room", "told", "now", "journal", "spoken")
        refused = set()
        for seed in range(60, 90):
            bus = Bus()
            for action in self.actions(seed):
                before = picture(bus)
                told = self.done(bus, action)
                is_refused = isinstance(told, tuple) and isinstance((told + ("",))[0], type)
                if is_refused:
                    refused.add((action[0], told[0].__name__))
                if is_refused or action[0] in questions or (action[0] == "call_off" and told is False):
                    self.assertEqual(before, picture(bus), action)
        self.assertGreaterEqual(len(refused), 20, refused)
