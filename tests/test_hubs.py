"""Points 14 and 15 at hubs: looks, hubs in hubs, hubs that go or are reset, ports that can't be shut off."""

import string

from plugtree.requests import request_bytes
from tests.built import EIGHT, FOUR, HUB, HUB_OF_FOUR, NO_ENDS, ONE_IN, states
from tests.test_host import FULL_TIMED, GREEDY, ORDER, HostCase
from tests.watch import Watched

TWO = (7, 7, 2, ())


def looks(bus, since=0):
    """The frames in which hubs' ports were asked for, with the port's place."""
    rows = bus.journal()[since:]
    found = []
    for at, row in enumerate(rows):
        if row[2][0] == "setup" and rows[at + 1][2][2][:1] == (163,):
            found.append((row[0], (row[2][1], rows[at + 1][2][2][4])))
    return found


def requests(bus, request):
    """The frames in which a request was made."""
    return [row[0] for row in bus.journal() if row[2] == ("data", 0, request_bytes(request))]


class HubCase(HostCase):
    def with_hub(self, *plans):
        """A hub at the root's first port, ready, with things plugged in at its ports."""
        found = Watched(self)
        found.plug("hub", HUB)
        found.settle()
        for port, plan in enumerate(plans, 1):
            found.plug("abcd"[port - 1], plan, "hub", port)
        return found

    def deep(self, many):
        found = Watched(self)
        for deep in range(many):
            found.plug(string.ascii_lowercase[deep], HUB_OF_FOUR, string.ascii_lowercase[deep - 1] if deep else "", 1)
        return found

    def full(self, first=HUB):
        """Fifteen things, a hub among them: a with b to e, three of these hubs with three or four each."""
        found = Watched(self)
        found.plug("a", first)
        for port, name in enumerate("bcde", 1):
            found.plug(name, HUB, "a", port)
        for at, name in enumerate("fghijklmno"):
            found.plug(name, ONE_IN, "bcd"[at // 4], at % 4 + 1)
        return found


class Looks(HubCase):
    def test_one_port_a_frame_one_behind_the_other(self):
        watched = self.with_hub()
        watched.run(30)
        found = looks(watched.bus)
        frames = [frame for frame, _ in found]
        self.assertEqual(list(range(frames[0], watched.bus.now())), frames)
        self.assertEqual([(1, k % 4 + 1) for k in range(len(found))], [place for _, place in found])

    def test_whatever_else_goes_on(self):
        watched = self.full()
        watched.settle()
        ports = [row[:2] for row in watched.bus.seen() if row[0] != 0]
        self.assertEqual(20, len(ports))
        many = len(watched.bus)
        watched.pull("o")
        watched.plug("x", FOUR, "", 2)
        for name in "fghi":
            watched.fetch(name, 1)
            watched.unstall(name, 1, "in")
        watched.reset("e")
        watched.run(60)
        found = looks(watched.bus, many)
        self.assertEqual(60, len({frame for frame, _ in found}))
        self.assertEqual(60, len(found))

    def test_each_is_looked_at_within_as_many_frames_as_there_are(self):
        watched = self.full()
        watched.settle()
        ports = [row[:2] for row in watched.bus.seen() if row[0] != 0]
        many = len(watched.bus)
        watched.run(100)
        found = [place for _, place in looks(watched.bus, many)]
        for k in range(len(found) - len(ports) + 1):
            self.assertEqual(set(ports), set(found[k:k + len(ports)]))

    def test_frames_that_are_full_of_timed_turns(self):
        watched = Watched(self)
        watched.plug("a", GREEDY[:2] + (4,) + GREEDY[3:])
        watched.plug("b", GREEDY, "", 2)
        watched.plug("c", (1, 1, 0, ((1, "in", "timed", 64, 1), (2, "in", "timed", 28, 1))), "", 3)
        watched.settle()
        self.assertEqual([1350] * 32, watched.bus.room())
        for name in "abc":
            for number, way, _, size, _ in watched.plans[name][3]:
                for _ in range(20):
                    if way == "in":
                        watched.load(name, number, (1,) * 200)
                        watched.fetch(name, number)
                    else:
                        watched.bus.let(name, number, 90)
                        watched.send(name, number, (2,) * 200)
        many = len(watched.bus)
        watched.run(25)
        self.assertEqual(25, len(looks(watched.bus, many)))
        self.assertEqual({(1, port) for port in range(1, 5)}, {place for _, place in looks(watched.bus, many)})
        self.fills_up(watched)

    def fills_up(self, watched):
        """A thing of eight endpoints is set up within twelve frames, however full they are."""
        watched.plug("d", (2, 2, 0, tuple((k, "in", "bulk", 8, 0) for k in range(1, 8)) + ((7, "out", "bulk", 8, 0),)),
                     "a", 4)
        came_to, frames = None, 0
        while watched.bus.number_of("d") == 0:
            watched.run()
            frames += 1
            if came_to is None and states(watched.bus)[(1, 4)] == "reset":
                came_to = frames
        self.assertLessEqual(came_to, 8)
        self.assertLessEqual(frames - came_to + 1, 12)
        # All turns of that time are taken by others.
        watched.look_at_journal()

    def test_lost_looks_do_no_harm(self):
        for fate in (1, 2, 3):
            watched = self.with_hub(FOUR, EIGHT)
            watched.settle()
            rows = watched.bus.seen()
            watched.run(20, [fate] * 30)
            self.assertEqual(rows, watched.bus.seen())
            watched.pull("b")
            watched.settle()
            self.assertEqual("empty", states(watched.bus)[(1, 2)])


class Set(HubCase):
    def test_states_of_a_hubs_port(self):
        for port in range(1, 5):
            watched = self.with_hub()
            watched.plug("x", FOUR, "hub", port)
            self.assertEqual(ORDER, self.history(watched, (1, port)))
            self.assertEqual(1, len(requests(watched.bus, ("shut", port))))
            self.assertEqual(1, len(requests(watched.bus, ("reset", port))))

    def test_ports_of_a_hub_that_is_not_set_up(self):
        watched = Watched(self)
        watched.plug("hub", HUB)
        watched.plug("a", FOUR, "hub", 2)
        while watched.bus.number_of("hub") == 0:
            self.assertEqual(4, len(watched.bus.seen()))
            watched.run()
        self.assertEqual([(1, port, "empty", 0) for port in range(1, 5)], watched.bus.seen()[4:])
        watched.settle()
        self.assertEqual(2, watched.bus.number_of("a"))

    def test_as_many_ports_as_the_hub_has(self):
        for many in range(5):
            watched = Watched(self)
            watched.plug("hub", (1, 1, many, ()))
            watched.settle()
            self.assertEqual([(1, port, "empty", 0) for port in range(1, many + 1)], watched.bus.seen()[4:])

    def test_the_least_by_hubs_number_and_port(self):
        watched = self.with_hub(FOUR, TWO, ONE_IN)
        watched.settle()
        self.assertEqual([2, 3, 4], [watched.bus.number_of(name) for name in "abc"])
        watched.pull("a")
        watched.pull("c")
        watched.settle()
        watched.plug("y", FOUR, "b", 1)
        watched.plug("x", FOUR, "hub", 4)
        watched.plug("w", FOUR, "", 4)
        watched.settle()
        # All are seen before the first of them is ready.
        self.assertEqual([2, 4, 5], [watched.bus.number_of(name) for name in "wxy"])

    def test_five_deep(self):
        watched = self.deep(5)
        watched.settle()
        self.assertEqual([1, 2, 3, 4, 5], [watched.bus.number_of(name) for name in "abcde"])
        self.assertEqual([(k, 1, "ready", k + 1) for k in range(5)], [row for row in watched.bus.seen() if row[1] == 1][:5])
        self.assertEqual(24, len(watched.bus.seen()))
        watched.load("e", 1, (1, 2, 3))
        fetch = watched.fetch("e", 1)
        watched.run(2)
        self.assertEqual(("done", "", (1, 2, 3)), watched.bus.told(fetch)[:3])

    def test_fifteen(self):
        watched = self.full()
        watched.settle()
        numbers = [watched.bus.number_of(name) for name in watched.plans]
        self.assertEqual(list(range(1, 16)), sorted(numbers))

    def test_three_tries_and_dead(self):
        for word in ("first", "reset"):
            watched = self.with_hub(FOUR)
            thing = watched.bus.tree.thing_of("a" if word == "first" else "hub")
            hear, on = thing.hear_setup, request_bytes(("reset", 1))

            def deaf(data, hear=hear, word=word, on=on):
                hear(data)
                if word == "first" or data == on:
                    thing.doing = "stalled"
                return "ack"
            thing.hear_setup = deaf
            watched.settle()
            self.assertEqual("dead", states(watched.bus)[(1, 1)])
            self.assertEqual(3, len(requests(watched.bus, ("reset", 1))))
            self.assertEqual(4, len(requests(watched.bus, ("shut", 1))))
            self.assertFalse(watched.bus.tree.is_heard("a", watched.bus.now() + 9))
            del thing.hear_setup
            watched.pull("a")
            watched.plug("b", NO_ENDS, "hub", 1)
            watched.settle()
            self.assertEqual(2, watched.bus.number_of("b"))

    def test_the_asking_for_a_reset_that_gets_no_answer(self):
        watched = self.with_hub(FOUR)
        self.run_till(watched, "seen", (1, 1))
        before = len(requests(watched.bus, ("reset", 1)))
        # The look of the frame comes first: three turns.
        watched.run(1, [0, 0, 0, 1, 1, 1])
        self.assertEqual("shutting", states(watched.bus)[(1, 1)])
        self.assertEqual(3, len(requests(watched.bus, ("reset", 1))) - before)
        watched.settle()
        self.assertEqual(2, watched.bus.number_of("a"))

    def test_for_want_of_a_number(self):
        watched = self.full()
        watched.settle()
        # A port that is looked at last but one round: it goes while the host is just behind it.
        place = (watched.bus.number_of("d"), 2)
        name = watched.bus.tree.names[("d", 2)]
        while watched.bus.host.looked != place:
            watched.run()
        watched.pull(name)
        watched.plug("x", NO_ENDS, "", 4)
        watched.run(12)
        self.assertEqual("refused", states(watched.bus)[(0, 4)])
        watched.settle()
        self.assertEqual("refused", states(watched.bus)[(0, 4)])
        self.assertEqual(0, watched.bus.number_of("x"))
        watched.pull("x")
        watched.plug("x", NO_ENDS, "", 4)
        watched.settle()
        self.assertNotEqual(0, watched.bus.number_of("x"))


class Gone(HubCase):
    def test_a_hub_that_goes_while_a_port_of_it_is_set_up(self):
        for frames in range(16):
            watched = self.with_hub(FOUR, EIGHT)
            watched.run(frames)
            watched.pull("hub")
            watched.run()
            self.assertEqual([(0, port, "empty", 0) for port in range(1, 5)], watched.bus.seen())
            watched.plug("x", HUB_OF_FOUR, "", 2)
            watched.plug("y", FOUR, "x", 4)
            watched.settle()
            self.assertEqual([1, 2], [watched.bus.number_of(name) for name in "xy"])
            watched.look_at_journal()

    def test_a_hub_that_is_reset_while_a_port_of_it_is_set_up(self):
        for frames in range(16):
            watched = self.with_hub(FOUR, EIGHT)
            watched.run(frames)
            watched.reset("hub")
            self.assertEqual((0, 1, "shutting", 0), watched.bus.seen()[0])
            self.assertEqual(4, len(watched.bus.seen()))
            watched.settle()
            self.assertEqual({1, 2, 3}, {watched.bus.number_of(name) for name in ("hub", "a", "b")})
            watched.look_at_journal()

    def test_a_hub_in_a_hub_that_goes_or_is_reset(self):
        for frames in range(26):
            for do in ("pull", "reset"):
                watched = self.deep(3)
                watched.settle()
                watched.plug("x", FOUR, "c", 4)
                watched.run(frames)
                getattr(watched, do)("b")
                watched.settle()
                due = {1} if do == "pull" else {1, 2, 3, 4}
                self.assertEqual(due, {watched.bus.number_of(name) for name in watched.plans})
                watched.look_at_journal()

    def test_a_port_that_turns_while_it_is_set_up(self):
        for frames in range(16):
            for again in (False, True):
                watched = self.with_hub(FOUR)
                watched.run(frames)
                watched.pull("a")
                if again:
                    watched.plug("x", EIGHT, "hub", 1)
                watched.settle()
                self.assertEqual("ready" if again else "empty", states(watched.bus)[(1, 1)])
                watched.look_at_journal()

    def test_whoever_is_exchanged_between_the_look_and_the_reset(self):
        watched = self.with_hub(FOUR)
        self.run_till(watched, "seen", (1, 1))
        watched.pull("a")
        watched.plug("x", EIGHT, "hub", 1)
        found = self.history(watched, (1, 1))
        self.assertEqual("ready", found[-1])
        self.assertIn("shutting", found)
        self.assertEqual((2, EIGHT), (watched.bus.number_of("x"), watched.bus.plan_of(2)))

    def test_a_hubs_port_that_turned_256_times(self):
        for times in (127, 128):
            watched = self.with_hub(FOUR)
            watched.settle()
            bus = watched.bus
            rows = bus.seen()
            for _ in range(times):
                bus.pull("a")
                bus.plug("a", FOUR, "hub", 1)
            bus.run(6)
            self.assertEqual(times == 128, rows == bus.seen())
            self.assertEqual(0, bus.number_of("a"))

    def test_how_often_a_port_turned_outlasts_a_reset_of_the_hub(self):
        watched = self.with_hub(FOUR)
        watched.settle()
        for _ in range(3):
            watched.pull("a")
            watched.plug("a", FOUR, "hub", 1)
        watched.reset("hub")
        watched.settle()
        packets = [row[2] for row in watched.bus.journal()]
        self.assertIn(("data", 1, (1, 7)), packets)
        self.assertNotIn(("data", 1, (1, 8)), packets)


class Shut(HubCase):
    def test_a_port_that_cannot_be_shut_off(self):
        for fate in (1, 2):
            watched = self.with_hub(FOUR)
            self.run_till(watched, "shutting", (1, 1))
            # The look of the next frame is answered; what follows isn't, for three frames.
            for _ in range(3):
                watched.run(1, [0, 0, 0, fate, fate, fate])
                self.assertEqual("shutting", states(watched.bus)[(1, 1)])
            self.assertEqual(9, len(requests(watched.bus, ("shut", 1))))
            watched.run()
            self.assertEqual("seen", states(watched.bus)[(1, 1)])
            self.assertEqual(ORDER[2:], self.history(watched, (1, 1)))

    def test_nobody_else_is_reset_as_long_as_it_may_be_open(self):
        watched = self.with_hub(FOUR, FOUR)
        self.run_till(watched, "first", (1, 1))
        self.run_till(watched, "seen", (1, 2))
        # The step fails, and the port can't be shut off.
        watched.run(2, [0, 0, 0, 1, 1, 1, 0, 0, 0, 1, 1, 1])
        self.assertEqual(["shutting", "seen"], [states(watched.bus)[(1, port)] for port in (1, 2)])
        self.assertEqual(["a"], watched.hearers(0))
        for _ in range(5):
            watched.run(1, [0, 0, 0, 1, 1, 1])
            self.assertEqual(["shutting", "seen"], [states(watched.bus)[(1, port)] for port in (1, 2)])
        watched.settle()
        self.assertEqual({2, 3}, {watched.bus.number_of(name) for name in "ab"})

    def test_a_number_is_not_given_again_as_long_as_somebody_may_hear_it(self):
        watched = self.with_hub(FOUR, FOUR)
        watched.settle()
        self.assertEqual([2, 3], [watched.bus.number_of(name) for name in "ab"])
        watched.plug("c", EIGHT, "", 4)
        self.run_till(watched, "first", (0, 4))
        watched.reset("a")
        # Each frame: the look, the step where there is one, then the shutting, which is lost.
        watched.run(1, [0] * 8 + [1] * 3)
        for _ in range(4):
            self.assertEqual(["shutting", "first"], [states(watched.bus)[place] for place in ((1, 1), (0, 4))])
            self.assertEqual(["a"], watched.hearers(2))
            watched.run(1, [0, 0, 0, 1, 1, 1])
        watched.run()
        self.assertEqual([], watched.hearers(2))
        self.assertEqual((0, 4, "numbering", 2), watched.bus.seen()[3])
        watched.settle()
        self.assertEqual([2, 3, 4], [watched.bus.number_of(name) for name in "cba"])

    def test_one_that_surely_is_shut_off_holds_nobody_up(self):
        """Neither one that was never reset, nor one that was shut off, or empty, since."""
        for before in ("", "ready", "dead"):
            watched = self.with_hub()
            if before != "":
                watched.plug("a", FOUR, "hub", 1)
                watched.settle()
                if before == "dead":
                    watched.reset("a")
                    for _ in range(3):
                        self.run_till(watched, "first", (1, 1))
                        watched.run(1, [0, 0, 0, 1, 1, 1])
                    self.run_till(watched, "dead", (1, 1))
                watched.pull("a")
                if before == "ready":
                    watched.settle()
            watched.plug("a", FOUR, "hub", 1)
            self.run_till(watched, "shutting", (1, 1))
            watched.plug("x", NO_ENDS, "", 4)
            for _ in range(30):
                if watched.bus.number_of("x"):
                    break
                # Whoever is set up has its turns first.
                state = states(watched.bus)[(0, 4)]
                turns = {"first": 5, "numbering": 2, "asking": 5, "setting": 2}.get(state, 0)
                watched.run(1, [0] * (3 + turns) + [1] * 3)
                self.assertEqual("shutting", states(watched.bus)[(1, 1)])
                watched.bus.wire.fates.clear()
            self.assertEqual(2, watched.bus.number_of("x"), before)
            watched.settle()
            self.assertEqual(3, watched.bus.number_of("a"))

    def test_the_same_room_again_and_again(self):
        watched = self.with_hub(GREEDY, (1, 1, 0, FULL_TIMED[:4]))
        watched.settle()
        for _ in range(3):
            self.assertEqual([924] * 32, watched.bus.room())
            watched.reset("a")
            self.assertEqual([308] * 32, watched.bus.room())
            watched.settle()
            watched.reset("hub")
            self.assertEqual([0] * 32, watched.bus.room())
            watched.settle()
