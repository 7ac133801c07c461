"""Point 12: each fate at each kind of turn, as the journal tells it."""

import itertools

from plugtree.bus import Bus
from plugtree.requests import request_bytes
from plugtree.tree import Tree
from plugtree.wire import Wire
from tests.base import Case
from tests.built import FOUR, HUB, ready_bus, rows_since, run_till_ready

NOTHING = ()


def host(packet, came=True):
    return ("host", packet, came)


def thing(packet, came=True):
    return ("thing", packet, came)


def said(bus, many):
    return [row[1:] for row in rows_since(bus, many)]


class OfATurn(Case):
    """One turn of a pipe with each fate."""

    def turn(self, way, fate, do):
        """What was said in a turn, and the transfer's number."""
        bus = ready_bus(FOUR)
        do(bus)
        many = len(bus)
        # A timed endpoint has one turn a frame.
        number = bus.send(1, 2, (7, 8)) if way == "out" else bus.fetch(1, 2)
        bus.run(1, [fate])
        return bus, number, said(bus, many)

    def test_out_that_is_taken(self):
        token, piece, ack = ("out", 1, 2), ("data", 0, (7, 8)), ("ack",)
        for fate, rows, taken in (
            (0, [host(token), host(piece), thing(ack)], True),
            (1, [host(token, False), host(piece, False)], False),
            (2, [host(token), host(piece, False)], False),
            (3, [host(token), host(piece), thing(ack, False)], True),
        ):
            bus, number, told = self.turn("out", fate, lambda bus: bus.let("a", 2, 5))
            self.assertEqual(rows, told)
            self.assertEqual((7, 8) if taken else (), bus.came("a", 2))
            self.assertEqual("done" if fate == 0 else "waiting", bus.told(number)[0])
            # It is given again, and taken once.
            bus.run(3)
            self.assertEqual((("done", "", (), 1), (7, 8)), (bus.told(number), bus.came("a", 2)))

    def test_out_without_room(self):
        token, piece, nak = ("out", 1, 2), ("data", 0, (7, 8)), ("nak",)
        for fate, rows in (
            (0, [host(token), host(piece), thing(nak)]),
            (1, [host(token, False), host(piece, False)]),
            (2, [host(token), host(piece, False)]),
            (3, [host(token), host(piece), thing(nak, False)]),
        ):
            bus, number, told = self.turn("out", fate, lambda bus: None)
            self.assertEqual(rows, told)
            self.assertEqual((("waiting", "", (), 0), ()), (bus.told(number), bus.came("a", 2)))

    def test_out_to_one_that_is_halted(self):
        token, piece, stall = ("out", 1, 2), ("data", 0, (7, 8)), ("stall",)
        for fate, rows, state in (
            (0, [host(token), host(piece), thing(stall)], ("failed", "stalled")),
            (1, [host(token, False), host(piece, False)], ("waiting", "")),
            (2, [host(token), host(piece, False)], ("waiting", "")),
            (3, [host(token), host(piece), thing(stall, False)], ("waiting", "")),
        ):
            bus, number, told = self.turn("out", fate, lambda bus: bus.stall("a", 2, "out"))
            self.assertEqual(rows, told)
            self.assertEqual(state, bus.told(number)[:2])

    def test_in_that_gives(self):
        token, piece, ack = ("in", 1, 2), ("data", 0, (5,)), ("ack",)
        for fate, rows, state in (
            (0, [host(token), thing(piece), host(ack)], "done"),
            (1, [host(token, False)], "waiting"),
            (2, [host(token), thing(piece, False)], "waiting"),
            (3, [host(token), thing(piece), host(ack, False)], "done"),
        ):
            bus, number, told = self.turn("in", fate, lambda bus: bus.load("a", 2, (5,)))
            self.assertEqual(rows, told)
            self.assertEqual(state, bus.told(number)[0])
            bus.run(2)
            self.assertEqual(("done", "", (5,)), bus.told(number)[:3])
            # The piece that the host has, and the thing gives again, is thrown away.
            bus.load("a", 2, (6,))
            again = bus.fetch(1, 2)
            bus.run(2)
            self.assertEqual(("done", "", (6,)), bus.told(again)[:3])

    def test_in_of_one_that_says_nak_or_stall(self):
        token = ("in", 1, 2)
        for word, do in (("nak", lambda bus: None), ("stall", lambda bus: bus.stall("a", 2))):
            for fate, rows in (
                (0, [host(token), thing((word,))]), (1, [host(token, False)]), (2, [host(token), thing((word,), False)]),
                (3, [host(token), thing((word,))]),
            ):
                bus, number, told = self.turn("in", fate, do)
                self.assertEqual(rows, told)
                fails = word == "stall" and fate in (0, 3)
                self.assertEqual(("failed", "stalled") if fails else ("waiting", ""), bus.told(number)[:2])

    def test_where_nobody_hears(self):
        """Whether a packet came is told by the fate alone."""
        for way, fate in itertools.product(("in", "out"), range(4)):
            bus, number, told = self.turn(way, fate, lambda bus: self.hush(bus))
            token, piece = (way, 1, 2), ("data", 0, (7, 8))
            rows = [host(token, fate != 1)]
            if way == "out":
                rows.append(host(piece, fate in (0, 3)))
            self.assertEqual(rows, told)
            self.assertEqual("waiting", bus.told(number)[0])

    def hush(self, bus):
        """Shut the thing off behind the host's back, which only a test does."""
        bus.tree.shut_port("", 1)

    def test_at_a_hub_that_is_pulled_where_the_host_does_not_see_it(self):
        bus = Bus()
        bus.plug("hub", HUB)
        bus.plug("leaf", FOUR, "hub", 1)
        run_till_ready(bus, ("hub", "leaf"))
        transfer = bus.send(bus.number_of("leaf"), 2, (7, 8))
        while bus.host.looked != (1, 1):
            bus.run()
        bus.pull("leaf")
        many = len(bus)
        bus.run(1)
        self.assertIn(host(("out", 2, 2)), said(bus, many))
        at = said(bus, many).index(host(("out", 2, 2)))
        self.assertEqual([host(("data", 0, (7, 8)))], said(bus, many)[at + 1:at + 2])
        self.assertNotIn("thing", [row[0] for row in said(bus, many)[at + 2:at + 3]])
        self.assertEqual("waiting", bus.told(transfer)[0])


class OfAsking(Case):
    """The turns of a request, at the wire itself."""

    def wire(self, fates):
        tree = Tree()
        tree.plug("a", FOUR, "", 1)
        tree.reset_port("", 1, -2)
        wire = Wire(tree)
        wire.fates.extend(fates)
        wire.begin_frame()
        return wire, tree.thing_of("a")

    def said(self, wire):
        return [row[1:] for row in wire.rows[1:]]

    def test_setup(self):
        token, piece = ("setup", 0, 0), ("data", 0, request_bytes(("device",)))
        for fate, rows, came in (
            (0, [host(token), host(piece), thing(("ack",))], True),
            (1, [host(token, False), host(piece, False)], False),
            (2, [host(token), host(piece, False)], False),
            (3, [host(token), host(piece), thing(("ack",), False)], True),
        ):
            wire, hearer = self.wire([fate])
            told = wire.give(token, piece, 8)
            self.assertEqual(rows, self.said(wire))
            self.assertEqual(("ack",) if fate == 0 else NOTHING, told)
            self.assertEqual("data" if came else "nak", hearer.hear_in(0)[0])

    def test_in_that_gives(self):
        for fate in range(4):
            wire, hearer = self.wire([fate])
            hearer.hear_setup(request_bytes(("device",)))
            piece = hearer.hear_in(0)
            told = wire.take(("in", 0, 0), 8)
            rows = {
                0: [host(("in", 0, 0)), thing(piece), host(("ack",))], 1: [host(("in", 0, 0), False)],
                2: [host(("in", 0, 0)), thing(piece, False)],
                3: [host(("in", 0, 0)), thing(piece), host(("ack",), False)],
            }[fate]
            self.assertEqual(rows, self.said(wire))
            self.assertEqual(piece if fate in (0, 3) else NOTHING, told)
            # Only an ack that came lets it go on.
            self.assertEqual(fate == 0, hearer.hear_in(0) != piece)

    def test_in_that_ends_a_wish(self):
        for fate in range(4):
            for request in (("number", 5), ("set", 1)):
                wire, hearer = self.wire([fate])
                hearer.hear_setup(request_bytes(request))
                told = wire.take(("in", 0, 0), 8)
                self.assertEqual(("data", 1, ()) if fate in (0, 3) else NOTHING, told)
                if request[0] == "number":
                    self.assertEqual(5 if fate == 0 else 0, hearer.number)
                else:
                    self.assertEqual(0 if fate == 1 else 1, hearer.level)

    def test_out_that_ends(self):
        token, piece = ("out", 0, 0), ("data", 1, ())
        for fate, rows, came in (
            (0, [host(token), host(piece), thing(("ack",))], True),
            (1, [host(token, False), host(piece, False)], False),
            (2, [host(token), host(piece, False)], False),
            (3, [host(token), host(piece), thing(("ack",), False)], True),
        ):
            wire, hearer = self.wire([fate])
            hearer.hear_setup(request_bytes(("device",)))
            self.assertEqual(("ack",) if fate == 0 else NOTHING, wire.give(token, piece, 8))
            self.assertEqual(rows, self.said(wire))
            self.assertEqual(("nak",) if came else "data", hearer.hear_in(0) if came else hearer.hear_in(0)[0])

    def test_endpoint_0_that_stalls(self):
        for fate in range(4):
            wire, hearer = self.wire([fate, fate])
            hearer.hear_setup(())
            self.assertEqual(NOTHING if fate in (1, 2) else ("stall",), wire.take(("in", 0, 0), 8))
            self.assertEqual(NOTHING if fate else ("stall",), wire.give(("out", 0, 0), ("data", 1, ()), 8))
            rows = [host(("in", 0, 0), fate != 1)] + [thing(("stall",), fate != 2)] * (fate != 1)
            rows += [host(("out", 0, 0), fate != 1), host(("data", 1, ()), fate in (0, 3))]
            rows += [thing(("stall",), fate == 0)] * (fate in (0, 3))
            self.assertEqual(rows, self.said(wire))

    def test_an_endpoint_without_a_half(self):
        for fate in range(4):
            wire, _ = self.wire([fate, fate])
            self.assertEqual(NOTHING, wire.take(("in", 0, 3), 8))
            self.assertEqual(NOTHING, wire.give(("out", 0, 3), ("data", 0, (1,)), 8))
            rows = [host(("in", 0, 3), fate != 1), host(("out", 0, 3), fate != 1)]
            rows.append(host(("data", 0, (1,)), fate in (0, 3)))
            self.assertEqual(rows, self.said(wire))


class UsedUp(Case):
    def test_turn_by_turn_and_behind_them_all_is_well(self):
        bus = ready_bus(FOUR)
        bus.let("a", 1, 100)
        many = len(bus)
        bus.send(1, 1, (1,) * 79)
        bus.run(1, [0, 1, 2, 0, 3, 2])
        turns = []
        for row in rows_since(bus, many):
            if row[2][0] == "out":
                turns.append([])
            turns[-1].append(row[3])
        well = [True, True, True]
        self.assertEqual([well, [False, False], [True, False], well, [True, True, False], [True, False]], turns[:6])
        self.assertEqual([well] * (len(turns) - 6), turns[6:])
        self.assertEqual((1,) * 79, bus.came("a", 1))

    def test_frames_without_a_turn_use_none_up(self):
        bus = ready_bus(FOUR)
        bus.run(9, [1])
        bus.run(9)
        bus.let("a", 1, 1)
        many = len(bus)
        bus.send(1, 1, (5,))
        bus.run()
        self.assertEqual(host(("out", 1, 1), False), said(bus, many)[0])
        self.assertEqual(host(("out", 1, 1)), said(bus, many)[2])

    def test_more_come_behind_those_that_are_not_used_up(self):
        one, other = ready_bus(FOUR), ready_bus(FOUR)
        for bus, fates in ((one, [[1], [2, 3], [], [1, 1]]), (other, [[1, 2, 3, 1, 1], [], None, []])):
            for more in fates:
                bus.run(2, more)
            bus.let("a", 1, 20)
            bus.load("a", 1, (3,) * 20)
            bus.send(1, 1, (2,) * 40)
            bus.fetch(1, 1)
            bus.run(5)
        self.assertEqual(one.journal(), other.journal())
        self.assertNotEqual(one.journal(), ready_bus(FOUR).journal())

    def test_each_row_of_few_fates_and_two_messages(self):
        for fates in itertools.product(range(4), repeat=4):
            bus = ready_bus(FOUR)
            bus.let("a", 1, 20)
            bus.load("a", 1, (3,) * 9)
            out, back = bus.send(1, 1, (2,) * 9), bus.fetch(1, 1)
            bus.run(3, fates)
            self.assertEqual(("done", "", (), 2), bus.told(out))
            self.assertEqual(("done", "", (3,) * 9), bus.told(back)[:3])
            self.assertEqual((2,) * 9, bus.came("a", 1))
