"""Points 16 and 17: messages to and from things, and each cause by which a transfer fails."""

import itertools

from plugtree.bus import Bus
from plugtree.errors import Halted, NoEnd
from plugtree.halves import cut
from tests.base import Case
from tests.built import FOUR, HUB, crowded_bus, ready_bus, run_till_ready, states

BULK_SIZES = (8, 16, 32, 64)
TIMED_SIZES = (1, 7, 8, 63, 64)
KINDS = [("bulk", size, 0) for size in BULK_SIZES] + [("timed", size, 1) for size in TIMED_SIZES]


def message(many, first=3):
    return tuple((first + 7 * k) % 256 for k in range(many))


def bus_of(kind, way):
    return ready_bus((1, 1, 0, ((1, way) + kind,)))


def lengths(size):
    """Of none, of one, of whole pieces and one byte beside, and the most."""
    found = {0, 1, size - 1, size, size + 1, 2 * size - 1, 2 * size, 2 * size + 1, 3 * size, 199, 200}
    return sorted(many for many in found if 0 <= many <= 200)


class ToThings(Case):
    def test_each_size_and_length(self):
        for kind in KINDS:
            size = kind[1]
            bus = bus_of(kind, "out")
            due = ()
            for many in lengths(size):
                data = message(many, many)
                bus.let("a", 1, 1000)
                transfer = bus.send(1, 1, data)
                self.assertEqual(("waiting", "", (), 0), bus.told(transfer))
                for _ in range(220):
                    if bus.told(transfer)[0] != "waiting":
                        break
                    bus.run()
                due += data
                self.assertEqual(("done", "", (), many // size + 1), bus.told(transfer))
                self.assertEqual(due, bus.came("a", 1))

    def test_one_behind_the_other(self):
        bus = bus_of(("bulk", 8, 0), "out")
        bus.let("a", 1, 100)
        transfers = [bus.send(1, 1, message(many, many)) for many in range(0, 40, 3)]
        self.assertEqual(list(range(1, 15)), transfers)
        ended = []
        while len(ended) < len(transfers):
            bus.run(1, [1, 0, 2, 0, 3, 0])
            ended += [number for number in transfers if bus.told(number)[0] == "done" and number not in ended]
        self.assertEqual(transfers, ended)
        self.assertEqual(sum([message(many, many) for many in range(0, 40, 3)], ()), bus.came("a", 1))

    def test_room_that_is_let_now_and_then(self):
        for kind in (("bulk", 8, 0), ("timed", 8, 2)):
            bus = bus_of(kind, "out")
            data = message(30)
            transfer = bus.send(1, 1, data)
            room = 0
            for many in (0, 1, 0, 2, 1):
                bus.let("a", 1, many)
                room += many
                bus.run(6)
                self.assertEqual(data[:8 * room], bus.came("a", 1))
                self.assertEqual(min(room, 4), bus.told(transfer)[3])
            self.assertEqual(("done", "", (), 4), bus.told(transfer))
            self.assertEqual(0, bus.tree.thing_of("a").half(1, "out")[2])

    def test_nak_is_no_loss(self):
        bus = bus_of(("bulk", 8, 0), "out")
        transfer = bus.send(1, 1, (1,))
        bus.run(400)
        self.assertEqual("waiting", bus.told(transfer)[0])
        # Two turns without an answer, a nak, and two more.
        bus.run(1, [1, 1, 0, 1, 1, 0])
        bus.run(5)
        self.assertEqual("waiting", bus.told(transfer)[0])
        bus.let("a", 1)
        bus.run()
        self.assertEqual("done", bus.told(transfer)[0])


class FromThings(Case):
    def test_each_size_and_length(self):
        for kind in KINDS:
            size = kind[1]
            bus = bus_of(kind, "in")
            for many in lengths(size):
                data = message(many, many)
                bus.load("a", 1, data)
                transfer = bus.fetch(1, 1, max(many, 3))
                self.assertEqual(("waiting", "", ()), bus.told(transfer)[:3])
                for _ in range(220):
                    if bus.told(transfer)[0] != "waiting":
                        break
                    bus.run()
                self.assertEqual(("done", "", data), bus.told(transfer)[:3])

    def test_one_behind_the_other(self):
        bus = bus_of(("bulk", 16, 0), "in")
        transfers = [bus.fetch(1, 1) for _ in range(14)]
        for many in range(0, 42, 3):
            bus.load("a", 1, message(many, many))
        ended = []
        while len(ended) < len(transfers):
            bus.run(1, [3, 0, 2, 0, 1, 0])
            ended += [number for number in transfers if bus.told(number)[0] == "done" and number not in ended]
        self.assertEqual(transfers, ended)
        self.assertEqual([message(many, many) for many in range(0, 42, 3)], [bus.told(number)[2] for number in transfers])

    def test_messages_that_come_later(self):
        bus = bus_of(("bulk", 8, 0), "in")
        transfer = bus.fetch(1, 1)
        bus.run(10)
        self.assertEqual(("waiting", "", ()), bus.told(transfer)[:3])
        bus.load("a", 1, message(20))
        bus.run()
        self.assertEqual(("done", "", message(20)), bus.told(transfer)[:3])

    def test_of_at_most_so_many_bytes(self):
        for size in (8, 16):
            for many in (0, 1, 7, 8, 9, 15, 16, 17, 31, 32, 33):
                for most in range(0, 40, 1):
                    bus = FETCHERS[size].twin()
                    bus.load("a", 1, message(many))
                    transfer = bus.fetch(1, 1, most)
                    bus.run(2)
                    state, cause, data, _ = bus.told(transfer)
                    if many <= most:
                        self.assertEqual(("done", "", message(many)), (state, cause, data))
                    else:
                        self.assertEqual(("failed", "too much"), (state, cause))
                        self.assertEqual(message(many)[:len(data)], data)
                        # All that came, but perhaps for the piece that is too much.
                        pieces = cut(message(many), size)
                        whole = max(k for k in range(len(pieces)) if k * size <= most)
                        self.assertIn(data, [sum(pieces[:k], ()) for k in (whole, whole + 1)])
                        self.refuses(Halted, bus.fetch, 1, 1)


FETCHERS = {size: bus_of(("bulk", size, 0), "in") for size in (8, 16)}


class Causes(Case):
    """Each cause at the head, behind it and midway; three transfers wait, of which the first may be midway."""

    def waiting(self, way, midway, hub=False):
        """A bus with three transfers at a pipe, the first of them midway or not."""
        bus = Bus()
        if hub:
            bus.plug("hub", HUB)
        bus.plug("a", FOUR, "hub" if hub else "", 1)
        number = run_till_ready(bus, "a")[0]
        if way == "out":
            bus.let("a", 1, 1 if midway else 0)
            found = [bus.send(number, 1, message(20, k)) for k in range(3)]
        else:
            if midway:
                bus.load("a", 1, message(20))
                half = bus.tree.thing_of("a").halves
                half[(1, "in")] = half[(1, "in")][:2] + (half[(1, "in")][2][:1],)
            found = [bus.fetch(number, 1) for _ in range(3)]
        bus.run(2)
        self.assertEqual(["waiting"] * 3, [bus.told(one)[0] for one in found])
        self.assertEqual(1 if midway else 0, bus.told(found[0])[3])
        return bus, number, found

    def each(self, hub=False):
        for way, midway in itertools.product(("in", "out"), (False, True)):
            bus, number, found = self.waiting(way, midway, hub)
            yield way, midway, bus, number, found

    def ends(self, bus, found, *due):
        self.assertEqual(list(due), [bus.told(one)[:2] for one in found])
        # What failed stays as it is.
        kept = [bus.told(one) for one in found]
        bus.run(5)
        self.assertEqual(kept, [bus.told(one) for one in found])

    def is_halted_till_cleared(self, bus, way, number):
        hand_in = (lambda: bus.send(number, 1, (1, 2))) if way == "out" else (lambda: bus.fetch(number, 1))
        self.refuses(Halted, hand_in)
        bus.run(9)
        self.refuses(Halted, hand_in)
        wish = bus.unstall(number, 1, way)
        self.refuses(Halted, hand_in)
        bus.run(4)
        self.assertEqual(("done", ""), bus.told(wish)[:2])
        # Used anew from mark 0 on.
        before = bus.came("a", 1)
        bus.let("a", 1, 9)
        bus.load("a", 1, (1, 2))
        many = len(bus)
        transfer = hand_in()
        bus.run()
        self.assertEqual(("done", ""), bus.told(transfer)[:2])
        marks = [row[2][1] for row in bus.journal()[many:] if row[2][0] == "data" and row[2][2] == (1, 2)]
        self.assertEqual([0], marks)
        if way == "out":
            self.assertEqual(before + (1, 2), bus.came("a", 1))
        else:
            self.assertEqual((1, 2), bus.told(transfer)[2])

    def test_lost(self):
        for fate in (1, 2):
            for way, _, bus, number, found in self.each():
                bus.run(1, [fate] * 2)
                self.assertEqual("waiting", bus.told(found[0])[0])
                bus.run(1, [fate] * 3)
                self.ends(bus, found, ("failed", "lost"), ("failed", "halted"), ("failed", "halted"))
                self.is_halted_till_cleared(bus, way, number)

    def test_lost_again_behind_a_clear(self):
        for way in ("in", "out"):
            bus, number, found = self.waiting(way, False)
            for _ in range(3):
                bus.run(1, [1] * 3)
                self.assertEqual(("failed", "lost"), bus.told(found[0])[:2])
                bus.unstall(number, 1, way)
                bus.run()
                found = [bus.send(number, 1, (1,)) if way == "out" else bus.fetch(number, 1)]

    def test_lost_by_answers(self):
        bus, number, found = self.waiting("out", False)
        bus.let("a", 1, 1)
        bus.run(1, [3] * 3)
        self.ends(bus, found, ("failed", "lost"), ("failed", "halted"), ("failed", "halted"))
        # The one piece that was given last did come.
        self.assertEqual(message(20, 0)[:8], bus.came("a", 1))
        self.assertEqual(0, bus.told(found[0])[3])
        self.is_halted_till_cleared(bus, "out", number)

    def test_stalled(self):
        for way, _, bus, number, found in self.each():
            bus.stall("a", 1, way)
            bus.run()
            self.ends(bus, found, ("failed", "stalled"), ("failed", "halted"), ("failed", "halted"))
            self.is_halted_till_cleared(bus, way, number)

    def test_too_much(self):
        for most in (0, 7, 8, 15):
            bus = ready_bus(FOUR)
            bus.load("a", 1, message(17))
            found = [bus.fetch(1, 1, most), bus.fetch(1, 1), bus.fetch(1, 1)]
            bus.run()
            self.ends(bus, found, ("failed", "too much"), ("failed", "halted"), ("failed", "halted"))
            self.is_halted_till_cleared(bus, "in", 1)

    def test_called_off_at_the_head(self):
        for way, _, bus, number, found in self.each():
            self.assertIs(True, bus.call_off(found[0]))
            self.ends(bus, found, ("failed", "called off"), ("failed", "halted"), ("failed", "halted"))
            for one in found:
                self.assertIs(False, bus.call_off(one))
            self.is_halted_till_cleared(bus, way, number)

    def test_called_off_behind_it(self):
        for at in (1, 2):
            for way, _, bus, number, found in self.each():
                self.assertIs(True, bus.call_off(found[at]))
                due = [("failed", "called off")] + [("failed", "halted")] * (2 - at)
                self.ends(bus, found[at:], *due)
                self.assertIn(bus.told(found[0])[:2], (("waiting", ""), ("done", ""), ("failed", "halted")))
                self.is_halted_till_cleared(bus, way, number)

    def test_halted_by_a_wish_to_clear(self):
        for way, _, bus, number, found in self.each():
            wish = bus.unstall(number, 1, way)
            self.ends(bus, found, *[("failed", "halted")] * 3)
            self.assertEqual("done", bus.told(wish)[0])

    def test_gone(self):
        for pulled in ("a", "hub"):
            for _, _, bus, number, found in self.each(hub=True):
                wish = bus.unstall(number, 2)
                bus.pull(pulled)
                if pulled == "hub":
                    bus.run()
                    self.ends(bus, found + [wish], *[("failed", "gone")] * 4)
                else:
                    # The look is to come to it, or three turns are lost ahead of that.
                    bus.run(8)
                    self.assertLessEqual({bus.told(one)[1] for one in found}, {"gone", "lost", "halted"})
                    self.assertEqual({"failed"}, {bus.told(one)[0] for one in found})

    def test_gone_at_the_root(self):
        for again in (False, True):
            for _, _, bus, number, found in self.each():
                wish = bus.unstall(number, 2)
                bus.pull("a")
                if again:
                    bus.plug("a", FOUR)
                self.assertEqual(["waiting"] * 4, [bus.told(one)[0] for one in found + [wish]])
                bus.run()
                self.ends(bus, found + [wish], *[("failed", "gone")] * 4)

    def test_reset(self):
        for name in ("a", "hub"):
            for _, _, bus, number, found in self.each(hub=True):
                wish = bus.unstall(number, 2)
                bus.reset(bus.number_of(name))
                for one in found + [wish]:
                    state, cause = bus.told(one)[:2]
                    self.assertEqual("failed", state)
                    self.assertIn(cause, ("reset",) if name == "a" else ("reset", "gone"))
                self.assertEqual(0, bus.number_of("a"))
                run_till_ready(bus, ("hub", "a"))
                self.is_fresh(bus)

    def is_fresh(self, bus):
        number = bus.number_of("a")
        self.assertEqual((), bus.came("a", 1))
        bus.let("a", 1, 2)
        bus.load("a", 1, (4, 5))
        transfers = [bus.send(number, 1, (6,)), bus.fetch(number, 1)]
        bus.run()
        self.assertEqual(["done", "done"], [bus.told(one)[0] for one in transfers])
        self.assertEqual(((6,), (4, 5)), (bus.came("a", 1), bus.told(transfers[1])[2]))

    def test_what_ended_stays_as_it_is(self):
        bus = ready_bus(FOUR)
        bus.let("a", 1, 9)
        done = bus.send(1, 1, (1,))
        bus.run()
        bus.stall("a", 1, "out")
        failed = bus.send(1, 1, (2,))
        bus.run()
        kept = [bus.told(one) for one in (done, failed)]
        self.assertEqual([("done", "", (), 1), ("failed", "stalled", (), 0)], kept)
        bus.reset(1)
        bus.run(20)
        bus.pull("a")
        bus.run(20)
        self.assertEqual(kept, [bus.told(one) for one in (done, failed)])
        self.assertEqual([False, False], [bus.call_off(one) for one in (done, failed)])


class NumbersGivenAgain(Case):
    def test_pipes_are_those_of_the_thing_that_has_the_number(self):
        bus = ready_bus(FOUR)
        bus.unstall(1, 1, "out")
        bus.run(2)
        bus.pull("a")
        bus.plug("b", (1, 1, 0, ((1, "out", "bulk", 64, 0),)), "", 2)
        run_till_ready(bus, "b")
        self.assertEqual(1, bus.number_of("b"))
        for call in (
            lambda: bus.fetch(1, 1), lambda: bus.fetch(1, 2), lambda: bus.send(1, 2, ()), lambda: bus.unstall(1, 2),
        ):
            self.refuses(NoEnd, call)
        bus.let("b", 1, 2)
        transfer = bus.send(1, 1, message(60))
        bus.run()
        self.assertEqual(("done", "", (), 1), bus.told(transfer))

    def test_a_halted_pipe_is_not_halted_for_the_next_one(self):
        bus = ready_bus(FOUR)
        bus.stall("a", 1)
        bus.fetch(1, 1)
        bus.run()
        self.refuses(Halted, bus.fetch, 1, 1)
        for do in (lambda: bus.reset(1), lambda: (bus.pull("a"), bus.plug("a", FOUR))):
            do()
            bus.run()
            run_till_ready(bus, "a")
            bus.load("a", 1, (1,))
            transfer = bus.fetch(1, 1)
            bus.run()
            self.assertEqual(("done", "", (1,)), bus.told(transfer)[:3])


class OtherPipes(Case):
    def test_what_is_done_at_one_turns_nothing_at_the_others(self):
        for do in (
            lambda bus: bus.unstall(1, 1, "out"), lambda bus: bus.call_off(1), lambda bus: bus.stall("a", 1, "out"),
            lambda bus: bus.run(1, [1] * 3),
        ):
            bus = ready_bus(FOUR, FOUR)
            bus.send(1, 1, message(20))
            bus.run(1)
            do(bus)
            bus.run(2)
            self.assertEqual("failed", bus.told(1)[0])
            for name, number in (("a", 1), ("b", 2)):
                for endpoint, way in ((1, "out"), (2, "out"), (1, "in"), (2, "in")):
                    if (name, endpoint, way) == ("a", 1, "out"):
                        continue
                    bus.load(name, endpoint, message(30, endpoint))
                    bus.let(name, endpoint, 9)
                    if way == "out":
                        transfer = bus.send(number, endpoint, message(9))
                    else:
                        transfer = bus.fetch(number, endpoint)
                    bus.run(12)
                    self.assertEqual("done", bus.told(transfer)[0])
                    if way == "out":
                        self.assertEqual(message(9), bus.came(name, endpoint))
                    else:
                        self.assertEqual(message(30, endpoint), bus.told(transfer)[2])
                        bus.unstall(number, endpoint, "in")
                        bus.run(2)

    def test_a_stall_of_each_endpoint(self):
        for place in ((1, "in"), (1, "out"), (2, "in"), (2, "out")):
            bus = ready_bus(FOUR)
            bus.stall("a", *place)
            for other in ((1, "in"), (1, "out"), (2, "in"), (2, "out")):
                bus.let("a", other[0], 9)
                bus.load("a", other[0], (1,))
                transfer = bus.send(1, other[0], (1,)) if other[1] == "out" else bus.fetch(1, other[0])
                bus.run()
                due = ("failed", "stalled") if other == place else ("done", "")
                self.assertEqual(due, bus.told(transfer)[:2])
        self.assertEqual("ready", states(bus)[(0, 1)])


class Clears(Case):
    def test_each_endpoint(self):
        for place in ((1, "in"), (1, "out"), (2, "in"), (2, "out")):
            bus = ready_bus(FOUR)
            bus.load("a", place[0], (1, 2, 3))
            bus.let("a", place[0], 3)
            bus.stall("a", *place)
            self.assertEqual(1, bus.unstall(1, *place))
            self.assertEqual("waiting", bus.told(1)[0])
            self.assertIs(False, bus.call_off(1))
            self.assertEqual("waiting", bus.told(1)[0])
            bus.run(4)
            self.assertEqual(("done", ""), bus.told(1)[:2])
            half = bus.tree.thing_of("a").half(*place)
            # One that gives has no pieces then, one that takes keeps its room.
            self.assertEqual((0, False, ()) if place[1] == "in" else (0, False, 3, ()), half)

    def test_done_when_both_halves_are_cleared(self):
        # Marks are apart on both sides where an answer was lost; behind a clear both are 0.
        for fates in itertools.product(range(4), repeat=3):
            bus = ready_bus(FOUR)
            bus.let("a", 1, 9)
            first = bus.send(1, 1, message(40))
            bus.run(1, list(fates) + [1, 1, 1])
            self.assertEqual("lost", bus.told(first)[1])
            bus.wire.fates.clear()
            wish = bus.unstall(1, 1, "out")
            bus.run(2)
            self.assertEqual("done", bus.told(wish)[0])
            before = bus.came("a", 1)
            second = bus.send(1, 1, message(9, 99))
            bus.run(2)
            self.assertEqual(("done", "", (), 2), bus.told(second))
            self.assertEqual(before + message(9, 99), bus.came("a", 1))

    def test_that_fails_as_lost(self):
        for at, fate in itertools.product((0, 1), (1, 2)):
            bus = ready_bus(FOUR)
            bus.stall("a", 1)
            wish, other = bus.unstall(1, 1), bus.unstall(1, 2)
            bus.run(2, [0] * at + [fate] * 3)
            self.assertEqual(("failed", "lost"), bus.told(wish)[:2])
            self.refuses(Halted, bus.fetch, 1, 1)
            # The next one goes on.
            self.assertEqual(("done", ""), bus.told(other)[:2])
            bus.fetch(1, 2)
            again = bus.unstall(1, 1)
            bus.run(2)
            self.assertEqual(("done", ""), bus.told(again)[:2])
            bus.fetch(1, 1)

    def test_that_fails_as_stalled(self):
        """A clear stalls where the thing has no half: the test takes it away."""
        bus = ready_bus(FOUR)
        half = bus.tree.thing_of("a").halves.pop((1, "in"))
        wish = bus.unstall(1, 1)
        bus.run(2)
        self.assertEqual(("failed", "stalled"), bus.told(wish)[:2])
        self.refuses(Halted, bus.fetch, 1, 1)
        bus.tree.thing_of("a").halves[(1, "in")] = half
        wish = bus.unstall(1, 1)
        bus.run(2)
        self.assertEqual(("done", ""), bus.told(wish)[:2])

    def test_lost_turns_that_are_made_good(self):
        for fates in itertools.product(range(4), repeat=4):
            bus = ready_bus(FOUR)
            bus.stall("a", 1)
            wish = bus.unstall(1, 1)
            bus.run(2, fates)
            running = any(fates[k:k + 3] in [(one,) * 3 for one in (1, 2, 3)] or (
                all(fates[k:k + 3]) and not (3 in fates[k:k + 3])) for k in range(2))
            if not running and fates.count(0) > 1:
                self.assertEqual("done", bus.told(wish)[0], fates)

    def test_halts_when_its_turn_comes_too(self):
        """Two wishes at one pipe: what is handed in between fails as halted when the second one's turn comes."""
        bus, number = crowded_bus()
        # So full are the frames that they have room for one wish and half of the next one.
        wishes = [bus.unstall(number, endpoint, "out") for endpoint in (3, 4, 3)]
        self.refuses(Halted, bus.send, number, 3, ())
        bus.run()
        self.assertEqual(["done", "waiting", "waiting"], [bus.told(one)[0] for one in wishes])
        self.refuses(Halted, bus.send, number, 4, ())
        between = bus.send(number, 3, (1,))
        bus.run()
        self.assertEqual(["done", "done", "waiting"], [bus.told(one)[0] for one in wishes])
        self.assertEqual(("failed", "halted", (), 0), bus.told(between))
        self.refuses(Halted, bus.send, number, 3, ())
        bus.run()
        self.assertEqual(["done"] * 3, [bus.told(one)[0] for one in wishes])
        behind = bus.send(number, 3, (1,))
        bus.let("c", 3)
        bus.run(20)
        self.assertEqual("done", bus.told(behind)[0])
