"""Point 18: the order and the room of the turns in a frame."""

import itertools
import random

from plugtree.bus import Bus
from plugtree.journal import first_wrong
from tests.base import Case
from tests.built import HUB, crowded_bus, ready_bus, run_till_ready

PERIODS = (1, 2, 4, 8, 16, 32)
# Timed ones of all periods, and bulk ones.
SOME = tuple(sorted(
    [(k + 1, "in", "timed", 10 + k, every) for k, every in enumerate(PERIODS)] + [(7, "out", "bulk", 16, 0)]))
OTHER = tuple(sorted(
    [(k + 1, "out", "timed", 40 - k, every) for k, every in enumerate(PERIODS)] + [(7, "in", "bulk", 64, 0)]))


def turns_by_frame(bus, since):
    """For each frame a list of turns: the token's word, number and endpoint, and the last thing that was said."""
    found = {}
    for frame, _, packet, _ in bus.journal()[since:]:
        turns = found.setdefault(frame, [])
        if packet[0] in ("in", "out", "setup"):
            turns.append([packet[1:] + packet[:1], packet[0]])
        elif packet[0] != "frame":
            turns[-1][1] = packet[0]
    return found


def fill(bus, names, many=9):
    """Let messages wait at each endpoint of some things."""
    for name in names:
        number = bus.number_of(name)
        for endpoint, way, _, _, _ in bus.plan_of(number)[3]:
            for _ in range(many):
                if way == "in":
                    bus.load(name, endpoint, (1,) * 200)
                    bus.fetch(number, endpoint)
                else:
                    bus.let(name, endpoint, 1000)
                    bus.send(number, endpoint, (2,) * 200)


def ends_of(bus, names):
    """All endpoints: {(number, endpoint, way): (kind, size, every)}."""
    found = {}
    for name in names:
        number = bus.number_of(name)
        for end in bus.plan_of(number)[3]:
            found[(number,) + end[:2]] = end[2:]
    return found


class Timed(Case):
    def test_each_has_one_turn_in_each_of_its_frames_and_none_in_others(self):
        bus = ready_bus(SOME_PLAN, OTHER_PLAN, SOME_PLAN, OTHER_PLAN)
        fill(bus, "abcd", 99)
        since = len(bus)
        bus.run(96)
        ends = ends_of(bus, "abcd")
        frames = turns_by_frame(bus, since)
        self.assertEqual(96, len(frames))
        for place, (kind, _, every) in ends.items():
            if kind == "timed":
                had = [frame for frame, turns in frames.items() for turn in turns if turn[0] == place]
                self.assertEqual(96 // every, len(had), place)
                # One phase, each of its frames, and no other.
                self.assertEqual({had[0] % every}, {frame % every for frame in had})
                self.assertEqual(list(range(had[0], had[0] + 96, every)), had)

    def test_phases_are_those_of_the_room(self):
        bus = ready_bus(SOME_PLAN, OTHER_PLAN)
        fill(bus, "ab", 99)
        since = len(bus)
        bus.run(32)
        table = [0] * 32
        ends = ends_of(bus, "ab")
        for frame, turns in turns_by_frame(bus, since).items():
            for place, _ in turns:
                if ends.get(place, ("",))[0] == "timed":
                    table[frame % 32] += ends[place][1] + 13
        self.assertEqual(bus.room(), table)

    def test_only_where_one_waits(self):
        bus = ready_bus(SOME_PLAN)
        since = len(bus)
        bus.run(40)
        self.assertEqual({()}, {tuple(turns) for turns in turns_by_frame(bus, since).values()})
        bus.load("a", 1, (1,))
        fetch = bus.fetch(1, 1)
        bus.run(1)
        self.assertEqual("done", bus.told(fetch)[0])
        since = len(bus)
        bus.run(40)
        self.assertEqual({()}, {tuple(turns) for turns in turns_by_frame(bus, since).values()})

    def test_one_a_frame_also_where_it_says_nak_or_is_lost(self):
        for fates in ([], [1], [2], [1, 2]):
            bus = ready_bus(SOME_PLAN)
            bus.fetch(1, 1)
            since = len(bus)
            bus.run(3, fates)
            self.assertEqual([1, 1, 1], [len(turns) for turns in turns_by_frame(bus, since).values()])

    def test_ahead_of_all_else_by_number_endpoint_and_way(self):
        bus = Bus()
        bus.plug("hub", HUB)
        bus.plug("a", BOTH_WAYS, "", 2)
        bus.plug("b", BOTH_WAYS, "hub", 1)
        run_till_ready(bus, ("hub", "a", "b"))
        fill(bus, "ab", 9)
        bus.unstall(bus.number_of("a"), 4)
        since = len(bus)
        bus.run(4)
        ends = ends_of(bus, ("a", "b"))
        for turns in turns_by_frame(bus, since).values():
            kinds = [0 if ends.get(place, ("",))[0] == "timed" else 1 if place[1] == 0 else 2 for place, _ in turns]
            self.assertEqual(sorted(kinds), kinds)
            self.assertEqual({0, 1, 2}, set(kinds))
            timed = [place for place, _ in turns[:kinds.index(1)]]
            self.assertEqual(sorted(place for place, end in ends.items() if end[0] == "timed"), timed)


SOME_PLAN = (1, 1, 0, SOME)
OTHER_PLAN = (1, 2, 0, OTHER)
BOTH_WAYS = (1, 3, 0, tuple(sorted(
    [(k, way, "timed", 8, 1) for k in (1, 2, 3) for way in ("in", "out")]
    + [(4, "in", "bulk", 8, 0), (4, "out", "bulk", 8, 0)])))


def said_rounds(ends, waiting, turns, last, left):
    """What bulk pipes are due, by the words of point 18: the turns tell only who said nak.

    waiting tells how many pieces each has still to give or to take; it is counted down.
    """
    due, resting = [], set()
    places = sorted(place for place in ends if ends[place][0] == "bulk")
    for _, said in turns:
        round_ = places[places.index(last) + 1:] + places[:places.index(last) + 1] if last else places
        may = [place for place in round_
               if waiting[place] and place not in resting and ends[place][1] + 13 <= left]
        if not may:
            break
        last = may[0]
        due.append(last)
        left -= ends[last][1] + 13
        if said == "nak":
            resting.add(last)
        else:
            waiting[last] -= 1
    return due, last, left, resting


class Bulk(Case):
    def rounds(self, plans, room_for, many, frames=12):
        """Run a bus on which bulk pipes have much to carry, and look at each turn."""
        bus = ready_bus(*plans)
        names = "abcd"[:len(plans)]
        ends = ends_of(bus, names)
        waiting = {}
        for (number, endpoint, way), (_, size, _) in ends.items():
            name = "abcd"[number - 1]
            for _ in range(many):
                if way == "in":
                    bus.fetch(number, endpoint)
                else:
                    bus.send(number, endpoint, (2,) * 200)
            # Some say nak in the middle.
            pieces = 200 // size + 1
            waiting[(number, endpoint, way)] = many * pieces
        last = None
        for k in range(frames):
            for number, endpoint, way in ends:
                if way == "in":
                    for _ in range(room_for // 4):
                        bus.load("abcd"[number - 1], endpoint, (1,) * 200)
                else:
                    bus.let("abcd"[number - 1], endpoint, room_for)
            since = len(bus)
            bus.run()
            turns = turns_by_frame(bus, since)[bus.now() - 1]
            timed = [turn for turn in turns if ends[turn[0]][0] == "timed"]
            left = 1494 - sum(ends[place][1] + 13 for place, _ in timed)
            bulk = turns[len(timed):]
            due, last, left, resting = said_rounds(ends, waiting, bulk, last, left)
            self.assertEqual(due, [place for place, _ in bulk])
            # All who could have a turn more had it.
            self.assertFalse([place for place, (kind, size, _) in ends.items() if kind == "bulk" and waiting[place]
                              and place not in resting and size + 13 <= left])
        self.assertEqual(-1, first_wrong(bus.journal()))
        return bus

    def test_by_rounds_that_go_on_from_frame_to_frame(self):
        one = (1, 1, 0, tuple((k, way, "bulk", size, 0) for k, way, size in (
            (1, "in", 8), (1, "out", 16), (2, "in", 32), (3, "out", 64), (5, "in", 8), (7, "out", 8))))
        for room_for in (4, 8, 40, 1000):
            self.rounds((one, one), room_for, 6)

    def test_while_timed_ones_have_their_turns(self):
        for room_for in (4, 12, 100):
            self.rounds((SOME_PLAN, OTHER_PLAN, BOTH_WAYS), room_for, 5)

    def test_one_pipe_alone(self):
        for size in (8, 16, 32, 64):
            for room_for in (1, 8, 100):
                bus = self.rounds(((1, 1, 0, ((3, "out", "bulk", size, 0),)),), room_for, 20, 6)
                turns = turns_by_frame(bus, 0)
                self.assertLessEqual(max(len(one) for one in turns.values()), 1494 // (size + 13))

    def test_nak_rests_till_the_next_frame(self):
        bus = ready_bus((1, 1, 0, ((1, "in", "bulk", 8, 0), (1, "out", "bulk", 8, 0))))
        bus.fetch(1, 1)
        bus.send(1, 1, (1,))
        since = len(bus)
        bus.run(5)
        for turns in turns_by_frame(bus, since).values():
            self.assertEqual({(1, 1, "in"), (1, 1, "out")}, {place for place, _ in turns})
            self.assertEqual(["nak", "nak"], [said for _, said in turns])

    def test_rounds_begin_behind_the_last_one(self):
        bus = ready_bus((1, 1, 0, tuple((k, "out", "bulk", 64, 0) for k in (1, 2, 3, 4))))
        for k in (1, 2, 3, 4):
            bus.let("a", k, 100)
            for _ in range(9):
                bus.send(1, k, (3,) * 200)
        since = len(bus)
        bus.run(3)
        # 1494 // 77 = 19 turns a frame.
        turns = [place[1] for one in turns_by_frame(bus, since).values() for place, _ in one]
        self.assertEqual([k % 4 + 1 for k in range(57)], turns)

    def test_one_without_room_is_passed_by(self):
        full = (1, 1, 0, tuple((k, way, "timed", 64, 1) for k in (1, 2, 3, 4) for way in ("in", "out")))
        last = ((1, "out", "timed", 64, 1), (2, "out", "timed", 28, 1))
        bulk = tuple((k, "out", "bulk", size, 0) for k, size in ((3, 8), (4, 64), (5, 8)))
        bus = ready_bus(full, full, (1, 1, 0, last + bulk))
        self.assertEqual([1350] * 32, bus.room())
        fill(bus, "abc", 9)
        since = len(bus)
        bus.run(4)
        turns = [[place[1] for place, _ in one][18:] for one in turns_by_frame(bus, since).values()]
        # 144 are left: 21 + 77 + 21 + 21; 77 + 21 + 21, where 77 have no room any more, + 21.
        self.assertEqual([[3, 4, 5, 3], [4, 5, 3, 5], [3, 4, 5, 3], [4, 5, 3, 5]], turns)

    def test_a_small_one_fills_what_is_left(self):
        bus = ready_bus((1, 1, 0, ((1, "in", "bulk", 16, 0), (2, "out", "bulk", 64, 0))))
        bus.let("a", 2, 1000)
        for _ in range(40):
            bus.send(1, 2, (3,) * 200)
            bus.load("a", 1, (1,) * 200)
            bus.fetch(1, 1)
        since = len(bus)
        bus.run()
        places = [place[1] for place, _ in turns_by_frame(bus, since)[bus.now() - 1]]
        # A pair of turns takes 29 + 77; fourteen of them leave 10.
        self.assertEqual([1, 2] * 14, places)
        bus = ready_bus((1, 1, 0, ((1, "in", "bulk", 16, 0), (2, "out", "bulk", 64, 0), (3, "out", "timed", 50, 1))))
        bus.let("a", 2, 1000)
        bus.let("a", 3, 1000)
        for _ in range(40):
            bus.send(1, 2, (3,) * 200)
            bus.send(1, 3, (3,) * 200)
            bus.load("a", 1, (1,) * 200)
            bus.fetch(1, 1)
        since = len(bus)
        bus.run()
        places = [place[1] for place, _ in turns_by_frame(bus, since)[bus.now() - 1]]
        # Thirteen of 1431 leave 53: one of 16 bytes more, none of 64.
        self.assertEqual([3] + [1, 2] * 13 + [1], places)

    def test_a_turn_takes_the_room_of_a_whole_piece(self):
        # Empty messages, and lost turns: no more turns than whole pieces have room.
        for fates in ([], [1] * 2, [2, 2]):
            bus = ready_bus((1, 1, 0, tuple((k, "out", "bulk", 64, 0) for k in (1, 2, 3))))
            for k in (1, 2, 3):
                bus.let("a", k, 1000)
                for _ in range(30):
                    bus.send(1, k, ())
            since = len(bus)
            bus.run(2, fates)
            self.assertEqual([19, 19], [len(turns) for turns in turns_by_frame(bus, since).values()])

    def test_endpoint_0_takes_that_of_8(self):
        bus, _ = crowded_bus()
        since = len(bus)
        bus.run(6)
        for turns in turns_by_frame(bus, since).values():
            # 1350 and 6 leave 144: a look takes 63, and nothing else is to be asked.
            self.assertEqual(18 + 3, len(turns))


class Room(Case):
    def test_of_a_frame_is_never_passed(self):
        drawn = random.Random(18)
        for _ in range(6):
            bus = Bus()
            bus.plug("hub", (1, 1, 4, SOME))
            bus.plug("a", SOME_PLAN, "hub", 1)
            bus.plug("b", OTHER_PLAN, "hub", 2)
            bus.plug("c", BOTH_WAYS, "", 3)
            run_till_ready(bus, ("hub", "a", "b", "c"))
            fill(bus, ("hub", "a", "b", "c"), 30)
            for _ in range(9):
                bus.run(5, [drawn.choice((0, 0, 0, 0, 0, 0, 1, 2, 3)) for _ in range(200)])
                for name in ("hub", "a", "b", "c"):
                    number = bus.number_of(name)
                    if number:
                        for endpoint, way, _, _, _ in bus.plan_of(number)[3]:
                            bus.unstall(number, endpoint, way)
            taken, most = {}, 0
            for frame, _, packet, _ in bus.journal():
                more = {"frame": 6, "data": len(packet[-1]) if packet[0] == "data" else 0}.get(packet[0], 13)
                taken[frame] = taken.get(frame, 0) + (0 if packet[0] in ("ack", "nak", "stall") else more)
                most = max(most, taken[frame])
            self.assertLessEqual(most, 1500)
            self.assertGreater(most, 1300)
            self.assertEqual(-1, first_wrong(bus.journal()))


class Wishes(Case):
    def test_done_within_four_frames_and_the_next_within_four_more(self):
        bus, number = crowded_bus()
        places = [(1, "out"), (2, "out"), (3, "out"), (4, "out")]
        for count in range(1, 9):
            other = bus.twin()
            wishes = [other.unstall(number, *place) for place in (places * 2)[:count]]
            for k, wish in enumerate(wishes):
                frames = 0
                while other.told(wish)[0] == "waiting":
                    other.run()
                    frames += 1
                self.assertEqual("done", other.told(wish)[0])
                self.assertLessEqual(frames, 4, k)

    def test_of_a_hub_too(self):
        plan = (1, 1, 4, tuple((k, way, "timed", 64, 1) for k in (1, 2, 3, 4) for way in ("in", "out")))
        bus = Bus()
        bus.plug("hub", plan)
        bus.plug("a", plan, "hub", 1)
        bus.plug("b", (2, 2, 0, ((1, "out", "timed", 64, 1), (2, "out", "timed", 28, 1))), "a", 1)
        run_till_ready(bus, ("hub", "a", "b"))
        fill(bus, ("hub", "a", "b"), 9)
        wishes = [bus.unstall(number, k, way) for number, k, way in itertools.product((1, 2), (1, 2, 3, 4), ("in", "out"))]
        for wish in wishes:
            frames = 0
            while bus.told(wish)[0] == "waiting":
                bus.run()
                frames += 1
            self.assertEqual(("done", ""), bus.told(wish)[:2])
            self.assertLessEqual(frames, 4)
