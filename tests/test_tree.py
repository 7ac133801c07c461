"""Point 10, with plug and pull of the interface's section plugtree/bus.py."""

import itertools
import string

from plugtree.bus import Bus
from plugtree.errors import BadName, BadPlan, Full, NoPort, NoThing, Taken, TooDeep
from tests.base import SIXTY, Case
from tests.built import FOUR, HUB, NO_ENDS, ONE_IN, run_till_ready, states
from tests.watch import picture

BAD = (1, 2, 9, ())
BAD_NAMES = ("", "abcdefghi", "A", "aB", "a1", "a b", "a_b", " ", "0", "ä", "é", "a\n", "-", "abcdefghA", "ab.c")


def deep_bus(many):
    """A bus with hubs in hubs, so many deep: a, b, c .."""
    bus = Bus()
    for deep in range(many):
        bus.plug(string.ascii_lowercase[deep], HUB, string.ascii_lowercase[deep - 1] if deep else "", 1)
    return bus


def full_bus():
    """A bus with fifteen things: a is a hub with b, c, d, e; three of these are hubs too."""
    bus = Bus()
    bus.plug("a", HUB)
    names = iter("fghijklmno")
    for port, name in enumerate("bcde", 1):
        bus.plug(name, HUB, "a", port)
    for hub, port in itertools.product("bcd", range(1, 5)):
        name = next(names, None)
        if name is not None:
            bus.plug(name, ONE_IN, hub, port)
    return bus


class Plugged(Case):
    def refused(self, bus, kind, *args, **more):
        before = picture(bus)
        error = self.refuses(kind, bus.plug, *args, **more)
        self.assertEqual(before, picture(bus))
        return error

    def test_names(self):
        for name in ("a", "z", "ab", "abcdefgh", "zzzzzzzz"):
            bus = Bus()
            self.assertIsNone(bus.plug(name, FOUR))
            self.assertEqual(0, bus.number_of(name))
            self.assertEqual([name], bus.pull(name))
        for name in BAD_NAMES:
            self.refused(Bus(), BadName, name, FOUR)

    def test_plans(self):
        for plan, at in ((BAD, 2), ((-1, 0, 0, ()), 0), ((0, 0, 0, ((1, "in", "bulk", 9, 0),)), 3)):
            self.assertEqual(at, self.refused(Bus(), BadPlan, "a", plan).at)

    def test_names_that_are_taken(self):
        bus = deep_bus(2)
        for name in "ab":
            self.refused(bus, Taken, name, FOUR, "", 2)
            self.refused(bus, Taken, name, FOUR, "b", 2)
        bus.pull("b")
        bus.plug("b", FOUR, "", 2)

    def test_hubs_that_are_none(self):
        bus = deep_bus(2)
        for hub in ("c", "A", "ab", " ", "root"):
            self.refused(bus, NoThing, "x", FOUR, hub, 1)

    def test_ports(self):
        bus = Bus()
        for port in (0, 5, -1, SIXTY, -SIXTY):
            self.refused(bus, NoPort, "x", FOUR, "", port)
        for many in range(5):
            bus = Bus()
            bus.plug("hub", (1, 2, many, ()))
            for port in (0, -1, many + 1, 5, SIXTY):
                self.refused(bus, NoPort, "x", FOUR, "hub", port)
            for port in range(1, many + 1):
                bus.plug("abcd"[port - 1], FOUR, "hub", port)
        for port in range(1, 5):
            bus = Bus()
            bus.plug("x", FOUR, "", port)

    def test_ports_that_are_taken(self):
        bus = deep_bus(3)
        for hub in ("", "a", "b"):
            self.refused(bus, Taken, "x", FOUR, hub, 1)
        bus.pull("c")
        bus.plug("x", FOUR, "b", 1)
        self.refused(bus, Taken, "y", FOUR, "b", 1)

    def test_five_deep_and_no_deeper(self):
        bus = deep_bus(5)
        self.refused(bus, TooDeep, "x", FOUR, "e", 1)
        bus.plug("x", FOUR, "d", 4)
        bus.pull("b")
        bus.plug("b", HUB, "", 2)
        for hub, name in ("bc", "cd", "de", "ef"):
            bus.plug(name, HUB, hub, 4)
        self.refused(bus, TooDeep, "x", FOUR, "f", 4)

    def test_fifteen_and_no_more(self):
        bus = full_bus()
        self.assertEqual("Bus at 0, 15 things", repr(bus))
        for hub, port in (("", 2), ("e", 1), ("d", 4)):
            self.refused(bus, Full, "x", FOUR, hub, port)
        bus.pull("o")
        bus.plug("x", FOUR, "e", 1)
        self.refused(bus, Full, "o", FOUR, "", 2)

    def test_several_at_once_in_their_order(self):
        """Each refusal alone and with all behind it: the first that is named is told."""
        bus = deep_bus(5)
        self.refused(bus, TooDeep, "x", FOUR, "e", 1)
        self.refused(bus, NoPort, "x", FOUR, "e", 5)
        self.refused(bus, NoThing, "x", FOUR, "no", 9)
        self.refused(bus, Taken, "a", FOUR, "no", 9)
        self.refused(bus, BadPlan, "a", BAD, "no", 9)
        self.refused(bus, BadName, "", BAD, "no", 9)
        self.refused(bus, BadName, "A", FOUR, "", 1)
        self.refused(bus, BadPlan, "a", BAD, "", 1)
        self.refused(bus, BadPlan, "x", BAD, "", 9)
        self.refused(bus, Taken, "a", FOUR, "", 9)

    def test_too_deep_ahead_of_full(self):
        bus = deep_bus(5)
        for port in (2, 3, 4):
            bus.plug("fgh"[port - 2], FOUR, "", port)
            bus.plug("ijk"[port - 2], FOUR, "a", port)
            bus.plug("lmn"[port - 2], FOUR, "b", port)
        bus.plug("o", FOUR, "c", 2)
        self.assertEqual("Bus at 0, 15 things", repr(bus))
        self.refused(bus, Full, "x", FOUR, "d", 2)
        self.refused(bus, TooDeep, "x", FOUR, "e", 1)
        self.refused(bus, Taken, "x", FOUR, "d", 1)
        self.refused(bus, NoPort, "x", FOUR, "e", 5)
        self.refused(bus, NoPort, "x", FOUR, "f", 1)
        self.refused(bus, NoThing, "x", FOUR, "y", 5)
        self.refused(bus, Taken, "o", FOUR, "y", 5)
        self.refused(bus, BadPlan, "o", BAD, "y", 5)
        self.refused(bus, BadName, "o o", BAD, "y", 5)

    def test_by_name(self):
        bus = Bus()
        bus.plug(name="a", plan=HUB, hub="", port=3)
        bus.plug("b", FOUR, port=2)
        bus.plug("c", FOUR, hub="a")
        run_till_ready(bus, "abc")
        self.assertEqual("ready", states(bus)[(0, 3)])
        self.assertEqual("ready", states(bus)[(0, 2)])
        self.assertEqual("ready", states(bus)[(bus.number_of("a"), 1)])
        self.assertEqual(["a", "c"], bus.pull(name="a"))


class Pulled(Case):
    def test_all_that_hangs_in_it_goes(self):
        bus = full_bus()
        self.assertEqual(["o"], bus.pull("o"))
        self.assertEqual(["b", "f", "g", "h", "i"], bus.pull("b"))
        for name in "obfghi":
            self.refuses(NoThing, bus.number_of, name)
        went = bus.pull("a")
        self.assertEqual("a", went[0])
        self.assertEqual(sorted("acdejklmn"), sorted(went))
        self.assertIs(list, type(went))
        for hub, inside in (("c", "jklm"), ("d", "n")):
            for name in inside:
                self.assertLess(went.index(hub), went.index(name))
        self.assertEqual("Bus at 0, 0 things", repr(bus))

    def test_each_behind_its_hub(self):
        bus = deep_bus(5)
        for name, hub in ("fa", "gb", "hc", "id", "jd"):
            bus.plug(name, FOUR, hub, 3 if name != "j" else 2)
        hubs = dict(zip("bcdefghij", "abcdabcdd"))
        went = bus.pull("a")
        self.assertEqual(sorted("abcdefghij"), sorted(went))
        for name, hub in hubs.items():
            self.assertLess(went.index(hub), went.index(name))

    def test_the_names_are_the_callers_own(self):
        bus = deep_bus(3)
        bus.pull("c").append("x")
        self.refuses(NoThing, bus.pull, "x")
        self.assertEqual(["a", "b"], bus.pull("a"))

    def test_names_that_no_thing_has(self):
        bus = deep_bus(2)
        before = picture(bus)
        for name in ("", "c", "A", "ab", "  ", "ä"):
            self.refuses(NoThing, bus.pull, name)
        self.assertEqual(before, picture(bus))

    def test_what_went_can_hang_elsewhere(self):
        bus = deep_bus(5)
        bus.pull("a")
        bus.plug("e", HUB, "", 4)
        bus.plug("a", HUB, "e", 4)
        run_till_ready(bus, "ea")


def turns_to(bus, number):
    """The frames of the turns by a number, each with whether it was answered."""
    found = []
    rows = bus.journal()
    for at, (frame, _, packet, _) in enumerate(rows):
        if packet[0] in ("in", "out", "setup") and packet[1] == number:
            behind = rows[at + 1:at + 3]
            found.append((frame, any(row[1] == "thing" for row in behind)))
    return found


class Heard(Case):
    def opened(self, bus, name):
        """From which frame on a thing at an open port is heard."""
        spot = bus.tree.spots[name]
        return bus.tree.opened[(spot.hub, spot.port)]

    def test_from_the_second_frame_behind_its_reset_on(self):
        bus = Bus()
        bus.plug("a", HUB)
        while states(bus)[(0, 1)] != "reset":
            self.assertFalse(bus.tree.is_heard("a", bus.now() + SIXTY))
            bus.run()
        reset_in = bus.now() - 1
        self.assertEqual("", bus.tree.hearer(0, reset_in))
        self.assertEqual("", bus.tree.hearer(0, reset_in + 1))
        self.assertEqual("a", bus.tree.hearer(0, reset_in + 2))
        run_till_ready(bus, "a")
        self.assertEqual(reset_in + 2, turns_to(bus, 0)[0][0])
        self.assertEqual({True}, {answered for _, answered in turns_to(bus, 0)})

    def test_a_hub_resets_its_ports_when_in_is_asked(self):
        bus = Bus()
        bus.plug("a", HUB)
        bus.plug("b", FOUR, "a", 3)
        run_till_ready(bus, "ab")
        rows = bus.journal()
        resets = [at for at, row in enumerate(rows) if row[2] == ("data", 0, (35, 3, 4, 0, 3, 0, 0, 0))]
        self.assertEqual(1, len(resets))
        # Behind it: the hub's ack, in, the empty piece, the host's ack.
        self.assertEqual([("ack",), ("in", 1, 0), ("data", 1, ())], [row[2] for row in rows[resets[0] + 1:resets[0] + 4]])
        frame = rows[resets[0]][0]
        self.assertEqual(frame + 2, self.opened(bus, "b"))
        firsts = [at for at, _ in turns_to(bus, 0) if at > frame]
        self.assertEqual(frame + 2, firsts[0])

    def test_shut_off_till_its_port_is_reset(self):
        for hub in ("", "a"):
            bus = Bus()
            bus.plug("a", HUB)
            run_till_ready(bus, "a")
            bus.plug("b", FOUR, hub, 4)
            self.assertFalse(bus.tree.is_heard("b", bus.now() + SIXTY))
            run_till_ready(bus, "b")
            self.assertTrue(bus.tree.is_heard("b", bus.now()))
            # Pulled out and plugged in again it is another thing.
            bus.pull("b")
            bus.plug("b", FOUR, hub, 4)
            self.assertFalse(bus.tree.is_heard("b", bus.now() + SIXTY))
            self.assertEqual(0, bus.number_of("b"))

    def test_heard_only_where_all_ports_above_are_open(self):
        bus = deep_bus(5)
        run_till_ready(bus, "abcde")
        for shut, name in enumerate("abcde"):
            other = bus.twin()
            spot = other.tree.spots[name]
            other.tree.shut_port(spot.hub, spot.port)
            for deep, each in enumerate("abcde"):
                self.assertEqual(deep < shut, other.tree.is_heard(each, other.now()))
                # Whoever is shut off keeps its number.
                self.assertEqual(bus.tree.thing_of(each).number, other.tree.thing_of(each).number)

    def test_a_reset_of_a_hub_shuts_all_below(self):
        bus = deep_bus(5)
        run_till_ready(bus, "abcde")
        for number, name in enumerate("abcde"):
            other = bus.twin()
            spot = other.tree.spots[name]
            other.tree.reset_port(spot.hub, spot.port, other.now())
            for deep, each in enumerate("abcde"):
                thing = other.tree.thing_of(each)
                self.assertEqual(0 if each == name else deep + 1, thing.number)
                self.assertEqual(0 if each == name else 1, thing.level)
                later = other.now() + 2
                self.assertEqual(deep <= number, other.tree.is_heard(each, later))
                self.assertEqual(deep < number, other.tree.is_heard(each, later - 1))

    def test_halves_are_kept_till_a_reset(self):
        bus = Bus()
        bus.plug("a", HUB)
        bus.plug("b", FOUR, "a", 1)
        run_till_ready(bus, "ab")
        bus.let("b", 1, 9)
        bus.send(bus.number_of("b"), 1, (1, 2, 3))
        bus.run()
        self.assertEqual((1, 2, 3), bus.came("b", 1))
        bus.reset(bus.number_of("a"))
        while states(bus)[(0, 1)] != "ready":
            self.assertEqual((1, 2, 3), bus.came("b", 1))
            bus.run()
        run_till_ready(bus, "b")
        self.assertEqual((), bus.came("b", 1))

    def test_where_two_have_a_number_nobody_takes_or_answers(self):
        bus = Bus()
        for port, name in enumerate("abc", 1):
            bus.plug(name, FOUR, "", port)
        run_till_ready(bus, "abc")
        bus.let("b", 1, 9)
        # No host does this: the test gives two things one number.
        bus.tree.thing_of("a").number = 2
        transfer = bus.send(2, 1, (1, 2, 3))
        other = bus.send(3, 1, ())
        bus.let("c", 1, 1)
        many = len(bus)
        bus.run()
        self.assertEqual(("failed", "lost", (), 0), bus.told(transfer))
        self.assertEqual("done", bus.told(other)[0])
        self.assertEqual((), bus.came("b", 1))
        two = [at for at, row in enumerate(bus.journal()) if at >= many and row[2] == ("out", 2, 1)]
        self.assertEqual(3, len(two))
        for at in two:
            self.assertEqual([True, True], [row[3] for row in bus.journal()[at:at + 2]])
            self.assertNotEqual("thing", (bus.journal() + [(0, "host")])[at + 2][1])

    def test_nobody_hears_a_number_that_none_has(self):
        bus = Bus()
        bus.plug("a", NO_ENDS)
        run_till_ready(bus, "a")
        for number in range(2, 128):
            self.assertEqual("", bus.tree.hearer(number, bus.now()))
        self.assertEqual("a", bus.tree.hearer(1, bus.now()))
        self.assertEqual("", bus.tree.hearer(0, bus.now()))
