"""Point 13, and the interface's section plugtree/journal.py."""

import random

from plugtree.bus import Bus
from plugtree.journal import first_wrong
from plugtree.packets import read_packet
from tests.base import SIXTY, Case
from tests.built import FOUR, HUB_OF_FOUR, run_till_ready
from tests.said_journal import said_first_wrong

START = (7, "host", ("frame", 7), True)


def host(packet, came=True, frame=7):
    return (frame, "host", packet, came)


def thing(packet, came=True, frame=7):
    return (frame, "thing", packet, came)


OUT, IN, SETUP, PIECE = ("out", 1, 2), ("in", 1, 2), ("setup", 1, 0), ("data", 1, (5, 6))
ACK, NAK, STALL = ("ack",), ("nak",), ("stall",)
# Every row that is right at some place, and some that never are.
ROWS = [who(packet, came) for who in (host, thing) for came in (True, False) for packet in (
    OUT, IN, SETUP, PIECE, ("data", 0, ()), ACK, NAK, STALL)]
ROWS += [host(("frame", 8), True, 8), host(("frame", 8), False, 8), host(("frame", 7)), thing(("frame", 8), True, 8),
         host(OUT, True, 8), host(("data", 2, ())), host(("frame", 9), True, 8), host(("frame", 9), True, 9)]


def lively_journal(seed, frames=60):
    """The journal of a bus with a hub, things in it, messages and all fates."""
    drawn = random.Random(seed)
    bus = Bus()
    bus.plug("hub", HUB_OF_FOUR)
    bus.plug("one", FOUR, "hub", 2)
    bus.plug("two", FOUR, "", 3)
    run_till_ready(bus, ("hub", "one", "two"))
    for name in ("hub", "one", "two"):
        for endpoint in (1, 2):
            bus.let(name, endpoint, drawn.randrange(30))
            bus.load(name, endpoint, (1,) * drawn.randrange(40))
            bus.send(bus.number_of(name), endpoint, (2,) * drawn.randrange(40))
            bus.fetch(bus.number_of(name), endpoint)
    bus.stall("one", 1, drawn.choice(("in", "out")))
    bus.run(frames, [drawn.choice((0, 0, 0, 1, 2, 3)) for _ in range(frames * 4)])
    return bus.journal()


class Right(Case):
    def test_of_no_rows(self):
        self.assertEqual(-1, first_wrong([]))
        self.assertEqual(-1, first_wrong(rows=[]))

    def test_each_turn(self):
        for turn in (
            [], [host(OUT), host(PIECE)], [host(OUT, False), host(PIECE, False)], [host(OUT), host(PIECE, False)],
            [host(OUT), host(PIECE), thing(ACK)], [host(OUT), host(PIECE), thing(ACK, False)],
            [host(OUT), host(PIECE), thing(NAK)], [host(SETUP), host(PIECE), thing(STALL, False)],
            [host(SETUP), host(PIECE), thing(ACK)], [host(SETUP, False), host(PIECE, False)],
            [host(IN)], [host(IN, False)], [host(IN), thing(NAK)], [host(IN), thing(STALL)],
            [host(IN), thing(NAK, False)], [host(IN), thing(STALL, False)], [host(IN), thing(PIECE, False)],
            [host(IN), thing(PIECE), host(ACK)], [host(IN), thing(PIECE), host(ACK, False)],
        ):
            rows = [START] + turn
            self.assertEqual(-1, first_wrong(rows))
            self.assertEqual(-1, first_wrong(rows + turn + [host(("frame", 8), True, 8)]))
            self.assertEqual(-1, first_wrong(rows + [host(IN, False)] + turn))

    def test_whoever_begins(self):
        for frame in (0, 1, 2047, 2048, 5000, SIXTY):
            self.assertEqual(-1, first_wrong([(frame, "host", ("frame", frame % 2048), True)]))
            self.assertEqual(0, first_wrong([(frame, "host", ("frame", (frame + 1) % 2048), True)]))

    def test_the_journals_of_runs(self):
        for seed in range(8):
            rows = lively_journal(seed)
            self.assertEqual(-1, first_wrong(rows))
            self.assertEqual(-1, said_first_wrong(rows))
            for many in range(0, len(rows), 17):
                self.assertEqual(-1, first_wrong(rows[:many]))

    def test_rows_are_left_as_they_were(self):
        rows = lively_journal(1)
        kept = list(rows)
        first_wrong(rows)
        self.assertEqual(kept, rows)


class Wrong(Case):
    def test_the_first_row(self):
        for row in (
            host(OUT), thing(("frame", 7)), host(("frame", 8)), (-1, "host", ("frame", 2047), True),
            (-2048, "host", ("frame", 0), True), host(ACK), thing(NAK), host(("frame", 2055)), host(("frame",)),
            (7, "nobody", ("frame", 7), True), (-SIXTY, "host", ("frame", 1), True),
        ):
            self.assertEqual(0, first_wrong([row]), row)
            self.assertEqual(0, first_wrong([row, START]), row)

    def test_packets_that_are_none(self):
        for packet in (
            ("out", 128, 0), ("out", 0, 16), ("out", -1, 0), ("out", 1), ("out",), ("frame", 2048, 1), ("what",),
            ("in", 1, 2, 3), ("setup", 1, -1), ("", 1), ("ACK",),
        ):
            self.assertEqual(1, first_wrong([START, host(packet)]), packet)
        for packet in (("data", 2, ()), ("data", 0, (256,)), ("data", 0, (-1,)), ("data", 0, (1,) * 65), ("data", 1)):
            self.assertEqual(2, first_wrong([START, host(OUT), host(packet)]), packet)
            self.assertEqual(2, first_wrong([START, host(IN), thing(packet)]), packet)
        self.assertEqual(3, first_wrong([START, host(OUT), host(PIECE), thing(("ack", 1))]))

    def test_frames(self):
        for frame in (6, 8, -7, 0, SIXTY):
            self.assertEqual(1, first_wrong([START, host(OUT, True, frame)]))
            self.assertEqual(2, first_wrong([START, host(OUT), host(PIECE, True, frame)]))
        for frame in (6, 7, 9, 2055, 2056):
            self.assertEqual(1, first_wrong([START, (frame, "host", ("frame", frame % 2048), True)]))
        self.assertEqual(1, first_wrong([START, host(("frame", 7), True, 8)]))
        self.assertEqual(1, first_wrong([START, host(("frame", 9), True, 8)]))

    def test_numbers_go_on_behind_2047(self):
        rows = [(2047, "host", ("frame", 2047), True), (2048, "host", ("frame", 0), True)]
        self.assertEqual(-1, first_wrong(rows))
        self.assertEqual(1, first_wrong(rows[:1] + [(0, "host", ("frame", 0), True)]))
        self.assertEqual(1, first_wrong(rows[:1] + [(2048, "host", ("frame", 1), True)]))

    def test_rows_of_each_kind_behind_each_beginning(self):
        """All rows of up to four behind a frame's beginning, against the second writing."""
        seen = set()
        ahead = [[START]]
        for many in range(1, 5):
            right = []
            for rows in ahead:
                for row in ROWS:
                    some = rows + [row]
                    said = said_first_wrong(some, many)
                    self.assertEqual(said, first_wrong(some), some)
                    seen.add(said)
                    if said == -1:
                        right.append(some)
            ahead = right if many < 3 else random.Random(many).sample(right, min(400, len(right)))
        self.assertEqual({-1, 1, 2, 3, 4}, seen)

    def test_room(self):
        # 6 + 19 * (13 + 64) = 1469; 13 and 18 bytes more are just 1500.
        full = [START] + [host(OUT), host(("data", 0, (1,) * 64))] * 19
        for many in range(30):
            for token, piece in ((host(OUT), host), (host(IN), thing)):
                rows = full + [token, piece(("data", 0, (1,) * many))]
                self.assertEqual(-1 if many < 19 else len(rows) - 1, first_wrong(rows))
        # Tokens alone: 6 + 114 * 13 = 1488.
        rows = [START] + [host(IN, False)] * 200
        self.assertEqual(115, first_wrong(rows))
        self.assertEqual(-1, first_wrong(rows[:115]))
        rows = [START] + [host(SETUP), host(("data", 0, ()))] * 200
        self.assertEqual(229, first_wrong(rows))
        # Answers take none, and each frame begins anew.
        rows = [START] + [host(OUT), host(("data", 0, (1,) * 64)), thing(ACK)] * 19
        again = [(8,) + row[1:] for row in rows[1:]]
        self.assertEqual(-1, first_wrong(rows + [host(("frame", 8), True, 8)] + again))

    def test_journals_with_a_row_otherwise(self):
        drawn = random.Random(13)
        seen = set()
        for seed in range(4):
            whole = lively_journal(seed, 25)
            for k in range(0, len(whole), 2):
                rows, at = part_about(whole, k)
                for other in spoilt(rows, at, drawn):
                    # What stands ahead is as it was.
                    said = said_first_wrong(other, max(at - 1, 0))
                    self.assertEqual(said, first_wrong(other), (at, other[max(at - 2, 0):at + 3]))
                    seen.add(said == -1)
        self.assertEqual({True, False}, seen)


def part_about(rows, at):
    """The rows about one, from a frame's beginning on, and where that one stands there."""
    begins = [k for k, row in enumerate(rows[:at + 1]) if row[2][0] == "frame"]
    begin = begins[-2:][0]
    return rows[begin:at + 9], at - begin


def spoilt(rows, at, drawn):
    """Journals with a row left out, twice, exchanged, or with another frame, speaker, packet, truth or number."""
    frame, speaker, packet, came = rows[at]
    put = lambda *row: rows[:at] + [row] + rows[at + 1:]
    yield rows[:at] + rows[at + 1:]
    yield rows[:at + 1] + rows[at:]
    if at + 1 < len(rows):
        yield rows[:at] + [rows[at + 1], rows[at]] + rows[at + 2:]
    yield put(frame + drawn.choice((-1, 1, 5)), speaker, packet, came)
    yield put(-1 - frame, speaker, packet, came)
    yield put(frame, {"host": "thing", "thing": "host"}[speaker], packet, came)
    yield put(frame, "root", packet, came)
    yield put(frame, speaker, drawn.choice((OUT, IN, SETUP, PIECE, ACK, NAK, STALL)), came)
    yield put(frame, speaker, ("frame", frame % 2048), came)
    yield put(frame, speaker, packet, not came)
    if len(packet) > 1:
        yield put(frame, speaker, (packet[0], packet[1] + 1) + packet[2:], came)
        yield put(frame, speaker, (packet[0], -1) + packet[2:], came)
    if packet[0] == "data":
        yield put(frame, speaker, packet[:2] + ((0,) * 64,), came)
        yield put(frame, speaker, packet[:2] + ((0,) * 65,), came)


class Numbers(Case):
    def test_a_frames_number_goes_on_behind_2047(self):
        bus = Bus()
        for _ in range(6):
            bus.run(400)
        rows = bus.journal()
        self.assertEqual([(k, "host", ("frame", k % 2048), True) for k in range(2400)], rows)
        self.assertEqual(-1, first_wrong(rows))
        self.assertEqual([row[2] for row in rows], [read_packet(row) for row in bus.spoken()])
        self.assertEqual((2400, 2400), (bus.now(), len(bus)))
        bus.plug("a", FOUR)
        bus.run(20)
        self.assertNotEqual(0, bus.number_of("a"))
        self.assertEqual(-1, first_wrong(bus.journal()))
