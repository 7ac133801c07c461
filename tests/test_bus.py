"""The interface's section plugtree/bus.py: each name, argument, default and kind of value, refusals; and point 1."""

import itertools

from plugtree.bus import Bus
from plugtree.errors import BadNumber, Halted, NoEnd, NoThing, NoTransfer
from plugtree.packets import packet_bytes
from plugtree.requests import request_bytes
from tests.base import SIXTY, Case
from tests.built import FOUR, HUB, HUB_OF_FOUR, ready_bus, run_till_ready, states
from tests.watch import picture

NO_NUMBERS = (0, 2, 15, 16, -1, 127, SIXTY, -SIXTY)
NO_NAMES = ("", "b", "A", "aa", " ")
LONG = (1,) * 201
NO_MESSAGES = (LONG, (256,), (-1,), (1, 2, SIXTY), (0,) * 199 + (-SIXTY,), LONG + (300,))
NO_ENDS = ((0, "in"), (0, "out"), (3, "in"), (8, "out"), (-1, "in"), (16, "in"), (SIXTY, "out"))


class Buses(Case):
    def test_a_new_one(self):
        bus = Bus()
        self.assertEqual((0, 0, [], []), (bus.now(), len(bus), bus.journal(), bus.spoken()))
        self.assertEqual([(0, port, "empty", 0) for port in range(1, 5)], bus.seen())
        self.assertEqual([0] * 32, bus.room())
        self.assertEqual("Bus at 0, 0 things", repr(bus))

    def test_equal_where_journals_and_next_frames_are_the_same(self):
        one, other = Bus(), Bus()
        self.assertTrue(one == other)
        self.assertFalse(one != other)
        one.plug("a", FOUR)
        # What hangs there isn't asked for.
        self.assertTrue(one == other)
        one.run(2)
        self.assertFalse(one == other)
        self.assertTrue(one != other)
        other.run(2)
        self.assertTrue(one == other)
        one.run(9)
        other.run(9)
        self.assertEqual(one.now(), other.now())
        self.assertFalse(one == other)

    def test_equal_to_nothing_else(self):
        bus = Bus()
        for other in (None, 0, "", (), [], {}, "Bus at 0, 0 things", bus.journal(), bus.tree, Bus):
            self.assertFalse(bus == other)
            self.assertTrue(bus != other)
            self.assertIs(False, bus.__eq__(other))

    def test_len_and_repr(self):
        bus = Bus()
        for frames in (1, 3, 0, 10, 400):
            bus.run(frames)
            self.assertEqual(len(bus.journal()), len(bus))
            self.assertEqual(len(bus.spoken()), len(bus))
            self.assertEqual(f"Bus at {bus.now()}, 0 things", repr(bus))
        bus.plug("a", HUB)
        self.assertEqual("Bus at 414, 1 things", repr(bus))
        bus.plug("b", FOUR, "a")
        bus.run()
        self.assertEqual("Bus at 415, 2 things", repr(bus))
        bus.pull("a")
        self.assertEqual("Bus at 415, 0 things", str(bus))

    def test_spoken_is_the_packets_bytes(self):
        bus = ready_bus(FOUR, HUB)
        self.assertEqual([packet_bytes(row[2]) for row in bus.journal()], bus.spoken())
        self.assertIs(list, type(bus.spoken()))
        self.assertEqual({tuple}, {type(row) for row in bus.spoken()})

    def test_two_know_nothing_of_one_another(self):
        one, other = Bus(), Bus()
        one.plug("a", FOUR)
        one.run(20)
        self.assertEqual(picture(Bus()), picture(other))


class Kinds(Case):
    def test_of_what_is_told(self):
        bus = ready_bus(FOUR, HUB)
        bus.let("a", 1)
        transfers = [bus.send(1, 1, (1,)), bus.fetch(1, 1), bus.unstall(1, 2), bus.send(1, 2, ())]
        self.assertEqual([1, 2, 3, 4], transfers)
        for number in transfers:
            self.assertEqual([str, str, tuple, int], [type(part) for part in bus.told(number)])
            self.assertIs(tuple, type(bus.told(number)))
        for told, kind in (
            (bus.seen(), tuple), (bus.room(), int), (bus.journal(), tuple), (bus.spoken(), tuple),
        ):
            self.assertIs(list, type(told))
            self.assertEqual({kind}, {type(one) for one in told})
        for row in bus.seen():
            self.assertEqual([int, int, str, int], [type(part) for part in row])
        for row in bus.journal():
            self.assertEqual([int, str, tuple, bool], [type(part) for part in row])
        self.assertIs(tuple, type(bus.came("a", 1)))
        self.assertEqual(FOUR, bus.plan_of(1))
        self.assertIs(int, type(bus.number_of("a")))
        self.assertIs(int, type(bus.now()))
        self.assertIs(True, bus.call_off(transfers[0]))
        self.assertIs(False, bus.call_off(transfers[0]))
        self.assertIs(Bus, type(bus.twin()))
        for done in (
            bus.load("a", 1, ()), bus.let("a", 2, 3), bus.stall("a", 1), bus.run(2), bus.run(0, [1]), bus.reset(1),
        ):
            self.assertIsNone(done)

    def test_arguments_by_their_names(self):
        bus = ready_bus(FOUR)
        bus.load(name="a", endpoint=1, data=(1, 2))
        bus.let(name="a", endpoint=1, many=2)
        bus.stall(name="a", endpoint=2, way="out")
        sends = [bus.send(number=1, endpoint=1, data=(4,)), bus.send(number=1, endpoint=2, data=(4,))]
        fetch = bus.fetch(number=1, endpoint=1, most=2)
        bus.run(frames=4, fates=[0])
        self.assertEqual(["done", "failed"], [bus.told(transfer=number)[0] for number in sends])
        self.assertEqual(("done", "", (1, 2)), bus.told(fetch)[:3])
        self.assertEqual((4,), bus.came(name="a", endpoint=1))
        wish = bus.unstall(number=1, endpoint=2, way="out")
        bus.run()
        self.assertEqual("done", bus.told(wish)[0])
        self.assertIs(False, bus.call_off(transfer=wish))
        self.assertEqual((1, FOUR), (bus.number_of(name="a"), bus.plan_of(number=1)))
        bus.reset(number=1)
        self.assertEqual(0, bus.number_of("a"))

    def test_defaults(self):
        bus = ready_bus(FOUR)
        bus.let("a", 1)
        self.assertEqual(1, bus.tree.thing_of("a").half(1, "out")[2])
        bus.stall("a", 1)
        self.assertEqual([True, False], [bus.tree.thing_of("a").half(1, way)[1] for way in ("in", "out")])
        wish = bus.unstall(1, 1)
        self.assertEqual(2, bus.send(1, 1, ()))
        self.refuses(Halted, bus.fetch, 1, 1)
        frame = bus.now()
        bus.run()
        self.assertEqual((frame + 1, "done"), (bus.now(), bus.told(wish)[0]))
        # Of at most 200 bytes.
        bus.load("a", 1, (7,) * 200)
        fetch = bus.fetch(1, 1)
        bus.run(3)
        self.assertEqual(("done", (7,) * 200), bus.told(fetch)[0::2][:2])


class Refusals(Case):
    def setUp(self):
        self.bus = ready_bus(FOUR)

    def refused(self, kind, method, *args):
        """A call is refused, and leaves all as it was."""
        before = picture(self.bus)
        self.refuses(kind, getattr(self.bus, method), *args)
        self.assertEqual(before, picture(self.bus))

    def test_of_names_that_no_thing_has(self):
        for name in NO_NAMES:
            for method, args in (
                ("pull", ()), ("load", (9, LONG)), ("let", (9, -1)), ("stall", (9,)), ("came", (9,)),
                ("number_of", ()), ("load", (1, ())), ("let", (1, 1)), ("stall", (1, "in")), ("came", (1,)),
            ):
                self.refused(NoThing, method, name, *args)

    def test_of_numbers_that_are_none_of_a_ready_thing(self):
        for number in NO_NUMBERS:
            for method, args in (
                ("send", (9, LONG)), ("fetch", (9, 201)), ("unstall", (9,)), ("plan_of", ()), ("reset", ()),
                ("send", (1, (1,))), ("fetch", (1,)), ("unstall", (1, "in")),
            ):
                self.refused(NoThing, method, number, *args)

    def test_of_a_thing_that_is_not_ready(self):
        bus = self.bus = Bus()
        bus.plug("a", FOUR)
        while states(bus)[(0, 1)] != "ready":
            self.assertEqual(0, bus.number_of("a"))
            for number in range(3):
                self.refused(NoThing, "send", number, 1, ())
                self.refused(NoThing, "plan_of", number)
                self.refused(NoThing, "reset", number)
            if bus.tree.thing_of("a").level == 0:
                self.refused(NoEnd, "load", "a", 1, ())
                self.refused(NoEnd, "let", "a", 1)
                self.refused(NoEnd, "stall", "a", 1)
                self.refused(NoEnd, "came", "a", 1)
            bus.run()
        self.assertEqual(1, bus.number_of("a"))

    def test_of_load(self):
        for message in NO_MESSAGES:
            self.refused(BadNumber, "load", "a", 1, message)
            self.refused(BadNumber, "load", "a", 9, message)
        for endpoint, _ in NO_ENDS:
            self.refused(NoEnd, "load", "a", endpoint, (1,))
        self.bus.load("a", 1, (1,) * 200)
        self.bus.load("a", 1, ())

    def test_of_let(self):
        for many in (-1, 1001, SIXTY, -SIXTY):
            self.refused(BadNumber, "let", "a", 1, many)
            self.refused(BadNumber, "let", "a", 9, many)
        for endpoint, _ in NO_ENDS:
            self.refused(NoEnd, "let", "a", endpoint, 0)
        self.bus.let("a", 1, 0)
        self.bus.let("a", 1, 1000)
        self.assertEqual((0, False, 1000, ()), self.bus.tree.thing_of("a").half(1, "out"))

    def test_of_stall_and_came(self):
        for endpoint, way in NO_ENDS:
            self.refused(NoEnd, "stall", "a", endpoint, way)
            self.refused(NoEnd, "came", "a", endpoint)
        bus = self.bus = ready_bus((1, 1, 0, ((1, "in", "bulk", 8, 0), (2, "out", "bulk", 8, 0))))
        self.refused(NoEnd, "stall", "a", 1, "out")
        self.refused(NoEnd, "stall", "a", 2)
        self.refused(NoEnd, "came", "a", 1)
        self.refused(NoEnd, "load", "a", 2, ())
        self.refused(NoEnd, "let", "a", 1)
        self.refused(NoEnd, "send", 1, 1, ())
        self.refused(NoEnd, "fetch", 1, 2)
        self.refused(NoEnd, "unstall", 1, 2)
        self.refused(NoEnd, "unstall", 1, 1, "out")
        self.assertEqual((), bus.came("a", 2))

    def test_of_send(self):
        for endpoint, _ in NO_ENDS:
            for data in ((), (1,), LONG, (256,)):
                self.refused(NoEnd, "send", 1, endpoint, data)
        for message in NO_MESSAGES:
            self.refused(BadNumber, "send", 1, 1, message)
        self.bus.unstall(1, 1, "out")
        for message in NO_MESSAGES:
            self.refused(BadNumber, "send", 1, 1, message)
        for message in ((), (1,), (1,) * 200):
            self.refused(Halted, "send", 1, 1, message)
        self.bus.run()
        self.bus.send(1, 1, (255,) * 200)

    def test_of_fetch(self):
        for endpoint, _ in NO_ENDS:
            for most in (0, 200, 201, -1):
                self.refused(NoEnd, "fetch", 1, endpoint, most)
        for most in (-1, 201, SIXTY, -SIXTY):
            self.refused(BadNumber, "fetch", 1, 1, most)
        self.bus.unstall(1, 1)
        for most in (-1, 201):
            self.refused(BadNumber, "fetch", 1, 1, most)
        for most in (0, 200):
            self.refused(Halted, "fetch", 1, 1, most)
        self.bus.run()
        self.bus.fetch(1, 1, 0)
        self.bus.fetch(1, 1, 200)

    def test_of_unstall(self):
        for endpoint, way in NO_ENDS:
            self.refused(NoEnd, "unstall", 1, endpoint, way)
        # A wish to clear is handed in wherever the pipe stands.
        self.assertEqual([1, 2, 3], [self.bus.unstall(1, 1) for _ in range(3)])

    def test_of_transfers_that_there_are_not(self):
        for number in (0, 1, -1, SIXTY, -SIXTY):
            self.refused(NoTransfer, "told", number)
            self.refused(NoTransfer, "call_off", number)
        self.assertEqual(1, self.bus.fetch(1, 1))
        for number in (0, 2, -1, SIXTY):
            self.refused(NoTransfer, "told", number)
            self.refused(NoTransfer, "call_off", number)

    def test_of_run(self):
        for frames in (-1, 401, SIXTY, -SIXTY):
            self.refused(BadNumber, "run", frames)
            self.refused(BadNumber, "run", frames, [0])
        for fates in ([4], [-1], [0, 1, 2, 3, 4], [0, SIXTY], [-SIXTY, 0]):
            for frames in (0, 1, 400, 401):
                self.refused(BadNumber, "run", frames, fates)
        now = self.bus.now()
        self.bus.run(400, [0, 1, 2, 3])
        self.bus.run(0)
        self.bus.run()
        self.assertEqual(now + 401, self.bus.now())


class Kept(Case):
    """Point 1: nothing is kept that was handed in, nothing is given away that is still used."""

    def busy(self):
        bus = Bus()
        bus.plug("hub", HUB_OF_FOUR)
        bus.plug("leaf", FOUR, "hub", 2)
        run_till_ready(bus, ("hub", "leaf"))
        bus.let("leaf", 1, 3)
        bus.load("leaf", 1, (1, 2, 3))
        number = bus.number_of("leaf")
        bus.send(number, 1, (9,) * 50)
        bus.fetch(number, 1, 9)
        bus.unstall(number, 2)
        bus.run(1, [0, 0, 1, 2, 3])
        return bus

    def test_told_lists_that_are_spoilt(self):
        bus = self.busy()
        for told in (bus.seen, bus.room, bus.journal, bus.spoken):
            before = picture(bus)
            kept = told()
            for spoil in (list.clear, lambda one: one.append(3), list.reverse, lambda one: one.pop()):
                spoil(told())
            self.assertEqual(kept, told())
            self.assertEqual(before, picture(bus))

    def test_fates_that_are_changed_behind(self):
        one, other = self.busy(), self.busy()
        fates = [1, 2, 3] * 9
        one.run(1, fates)
        self.assertEqual([1, 2, 3] * 9, fates)
        other.run(1, list(fates))
        fates.clear()
        one.run(9)
        other.run(9)
        self.assertEqual(picture(one), picture(other))
        self.assertEqual(one, other)
        one.run(3, (1, 2))
        other.run(3, [1, 2])
        self.assertEqual(one, other)

    def test_questions_leave_all_as_it_was(self):
        bus = self.busy()
        before = picture(bus)
        for _ in range(2):
            bus.now(), bus.journal(), bus.spoken(), bus.seen(), bus.room(), len(bus), repr(bus), bus == Bus()
            for name in ("hub", "leaf"):
                bus.plan_of(bus.number_of(name)), bus.came(name, 1), bus.came(name, 2)
            for number in (1, 2, 3):
                bus.told(number)
            bus.twin().run(40, [1, 2, 3])
        self.assertEqual(before, picture(bus))

    def test_a_call_off_of_what_does_not_wait_leaves_all_as_it_was(self):
        bus = self.busy()
        bus.run(30)
        before = picture(bus)
        for number in (2, 3):
            self.assertIn(bus.told(number)[0], ("done", "failed"))
            self.assertIs(False, bus.call_off(number))
        self.assertEqual(before, picture(bus))

    def test_of_no_frames_only_fates_come_in(self):
        bus = self.busy()
        before = picture(bus)
        bus.run(0)
        bus.run(0, [])
        bus.run(frames=0, fates=())
        self.assertEqual(before, picture(bus))
        one, other = bus.twin(), bus.twin()
        one.run(0, [1, 2])
        one.run(0, [3])
        one.run(2)
        other.run(2, [1, 2, 3])
        self.assertEqual(one, other)

    def test_a_twin_goes_its_own_way(self):
        bus = self.busy()
        twin = bus.twin()
        self.assertEqual(picture(bus), picture(twin))
        self.assertEqual(bus, twin)
        before = picture(bus)
        self.use_all(twin)
        self.assertEqual(before, picture(bus))
        after = picture(twin)
        self.use_all(bus)
        self.assertEqual(after, picture(bus))
        self.assertEqual(after, picture(twin))

    def use_all(self, bus):
        number = bus.number_of("leaf")
        bus.run(1, [2, 1])
        bus.let("leaf", 2, 4)
        bus.load("leaf", 2, (8,) * 20)
        bus.stall("leaf", 1)
        bus.send(number, 2, (7,) * 30)
        bus.fetch(number, 2)
        bus.plug("new", HUB, "hub", 4)
        bus.call_off(1)
        bus.unstall(number, 1, "out")
        bus.run(2, [0, 3])
        bus.reset(bus.number_of("hub"))
        bus.run(6)
        bus.pull("leaf")
        bus.run(4, [1] * 9)

    def test_twins_in_the_middle_of_all(self):
        """At each frame of a set-up, a twin does what the bus does."""
        drawn = itertools.cycle((0, 1, 0, 0, 3, 0, 2))
        bus = Bus()
        bus.plug("a", HUB)
        bus.plug("b", FOUR, "a", 3)
        bus.plug("c", FOUR, "", 3)
        for k in range(70):
            # Now and then a step fails.
            fates = [1] * 8 if k % 9 == 5 else [next(drawn) for _ in range(3)]
            twin = bus.twin()
            self.assertEqual(picture(bus), picture(twin))
            bus.run(1, fates)
            twin.run(1, fates)
            self.assertEqual(picture(bus), picture(twin))
            later = bus.twin()
            later.run(30)
            bus.twin().run(17, [1] * 8)
            again = bus.twin()
            again.run(30)
            self.assertEqual(later, again)


class Histories(Case):
    def test_plans_are_told_by_the_things(self):
        bus = ready_bus(FOUR, HUB_OF_FOUR, HUB)
        for number, plan in ((1, FOUR), (2, HUB_OF_FOUR), (3, HUB)):
            self.assertEqual(plan, bus.plan_of(number))
        self.assertIn(("data", 0, request_bytes(("settings",))), [row[2] for row in bus.journal()])
