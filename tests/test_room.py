"""Point 11, and the interface's section plugtree/room.py."""

import random

from plugtree.errors import BadNumber, NoRoom
from plugtree.room import bare_table, cost, let_in, phase_for, with_end
from tests.base import SIXTY, Case
from tests.said_plans import EIGHT_OF_BOTH

PERIODS = (1, 2, 4, 8, 16, 32)


def said_costs(table, every):
    """For each phase what its fullest frame has, and the first such frame."""
    found = []
    for phase in range(every):
        frames = [frame for frame in range(32) if frame % every == phase]
        # The first of the highest.
        frame = sorted(frames, key=lambda frame: (-table[frame], frame))[0]
        found.append((table[frame], frame))
    return found


def said_phase(table, size, every):
    """The phase, or the frames of no room."""
    found = said_costs(table, every)
    least = sorted(range(every), key=lambda phase: (found[phase][0], phase))[0]
    if found[least][0] + size + 13 > 1350:
        return [frame for _, frame in found]
    return least


class Cost(Case):
    def test_each_size(self):
        for size in range(65):
            self.assertEqual(size + 13, cost(size=size))

    def test_out_of_bounds(self):
        for size in (-1, 65, SIXTY, -SIXTY):
            self.refuses(BadNumber, cost, size)


class Tables(Case):
    def test_bare(self):
        self.assertEqual((0,) * 32, bare_table())
        self.assertIs(tuple, type(bare_table()))

    def test_put_on_and_taken_off(self):
        drawn = random.Random(11)
        for every in PERIODS:
            for phase in range(every):
                for size in (1, 2, 33, 63, 64):
                    table = tuple(drawn.randrange(1000) for _ in range(32))
                    more = with_end(table=table, size=size, every=every, phase=phase)
                    self.assertIs(tuple, type(more))
                    for frame in range(32):
                        due = size + 13 if frame % every == phase else 0
                        self.assertEqual(table[frame] + due, more[frame])
                    self.assertEqual(more, with_end(table, size, every, phase, sign=1))
                    self.assertEqual(table, with_end(more, size, every, phase, -1))

    def test_a_list_is_left_as_it_was(self):
        table = list(range(32))
        self.assertEqual(tuple(one + 14 for one in range(32)), with_end(table, 1, 1, 0))
        self.assertEqual(list(range(32)), table)


class Phases(Case):
    def as_said(self, table, size, every):
        said = said_phase(table, size, every)
        if isinstance(said, int):
            self.assertEqual(said, phase_for(table, size, every))
        else:
            error = self.refuses(NoRoom, phase_for, table, size, every)
            self.assertEqual(said, error.frames)
            self.assertIs(list, type(error.frames))

    def test_the_first_of_those_that_tie(self):
        for every in PERIODS:
            self.assertEqual(0, phase_for(table=bare_table(), size=64, every=every))
            for phase in range(every):
                table = bare_table()
                for ahead in range(phase):
                    table = with_end(table, 1, every, ahead)
                self.assertEqual(phase, phase_for(table, 5, every))

    def test_the_fullest_frame_counts(self):
        table = [0] * 32
        table[30] = 100
        # The even frames have one that is full, all odd ones together have more.
        for frame in range(1, 32, 2):
            table[frame] = 90
        self.assertEqual(1, phase_for(table, 1, 2))
        self.assertEqual(0, phase_for(table, 1, 4))

    def test_room_up_to_1350_and_no_more(self):
        for every in PERIODS:
            for size in (1, 8, 64):
                full = tuple([1350 - size - 13] * 32)
                self.assertEqual(0, phase_for(full, size, every))
                over = tuple(one + 1 for one in full)
                self.assertEqual(list(range(every)), self.refuses(NoRoom, phase_for, over, size, every).frames)
                self.assertEqual(every - 1, phase_for(over[:-1] + full[-1:], size, 32) if every == 32 else every - 1)

    def test_frames_of_no_room(self):
        table = [1340] * 32
        table[9] = table[17] = 1350
        table[30] = 1349
        self.assertEqual([30, 9], self.refuses(NoRoom, phase_for, table, 1, 2).frames)
        self.assertEqual([0, 9, 30, 3], self.refuses(NoRoom, phase_for, table, 1, 4).frames)
        self.assertEqual([9], self.refuses(NoRoom, phase_for, tuple(table), 64, 1).frames)
        self.assertEqual(list(range(32)), self.refuses(NoRoom, phase_for, table, 64, 32).frames)

    def test_the_frames_are_the_callers_own(self):
        table = (1350,) * 32
        self.refuses(NoRoom, phase_for, table, 1, 2).frames.append(7)
        self.assertEqual([0, 1], self.refuses(NoRoom, phase_for, table, 1, 2).frames)

    def test_tables_that_were_drawn(self):
        drawn = random.Random(12)
        for low, high in ((0, 1350), (1200, 1350), (1270, 1290), (1330, 1350)):
            for _ in range(150):
                table = tuple(drawn.randint(low, high) for _ in range(32))
                for every in PERIODS:
                    self.as_said(table, drawn.randint(1, 64), every)

    def test_filled_till_nothing_goes_in(self):
        for size in (1, 17, 50, 64):
            for every in PERIODS:
                table, many = bare_table(), 0
                while isinstance(said_phase(table, size, every), int):
                    self.as_said(table, size, every)
                    table = with_end(table, size, every, phase_for(table, size, every))
                    many += 1
                self.as_said(table, size, every)
                self.assertEqual(1350 // (size + 13) * every, many)

    def test_all_sizes_and_periods_in_turn(self):
        drawn = random.Random(13)
        table, none = bare_table(), 0
        while none < 40:
            size, every = drawn.randint(1, 64), drawn.choice(PERIODS)
            self.as_said(table, size, every)
            if isinstance(said_phase(table, size, every), int):
                table = with_end(table, size, every, phase_for(table, size, every))
                self.assertLessEqual(max(table), 1350)
            else:
                none += 1


class LetIn(Case):
    def test_of_no_timed_ones(self):
        for ends in ((), ((1, "in", "bulk", 8, 0),), tuple((k, "out", "bulk", 64, 0) for k in range(1, 8))):
            pair = let_in(table=bare_table(), ends=ends)
            self.assertEqual((bare_table(), []), pair)
            self.assertEqual((tuple, tuple, list), (type(pair), type(pair[0]), type(pair[1])))

    def test_one_by_one(self):
        table, phases = let_in(bare_table(), EIGHT_OF_BOTH)
        due, said = bare_table(), []
        for number, way, kind, size, every in EIGHT_OF_BOTH:
            if kind == "timed":
                phase = said_phase(due, size, every)
                due = with_end(due, size, every, phase)
                said.append(((number, way), phase))
        self.assertEqual((due, said), (table, phases))
        self.assertEqual(4, len(phases))
        self.assertNotEqual({0}, {phase for _, phase in phases})
        self.assertEqual({tuple}, {type(one) for one in phases} | {type(place) for place, _ in phases})

    def test_all_or_none(self):
        table = with_end(bare_table(), 64, 1, 0)
        for _ in range(15):
            table = with_end(table, 64, 1, 0)
        # 118 are left: room for one of 64, and one of 28.
        self.assertEqual(1350 - 118, table[0])
        ends = ((1, "in", "timed", 64, 1), (2, "in", "bulk", 64, 0), (2, "out", "timed", 28, 1))
        self.assertEqual(1350, let_in(table, ends)[0][31])
        before = table
        over = ends[:2] + ((2, "out", "timed", 29, 1),)
        self.assertEqual([0], self.refuses(NoRoom, let_in, table, over).frames)
        self.assertEqual(before, table)
        # The frames are those that are full where the last one finds no room.
        last = ((1, "in", "timed", 64, 2), (1, "out", "timed", 64, 4), (2, "in", "timed", 60, 1))
        self.assertEqual([0], self.refuses(NoRoom, let_in, table, last).frames)
        self.assertEqual([0, 1], self.refuses(NoRoom, let_in, table, ends[:1] + ((2, "in", "timed", 64, 2),)).frames)

    def test_a_list_is_left_as_it_was(self):
        table = [5] * 32
        found, _ = let_in(table, ((1, "in", "timed", 7, 1),))
        self.assertEqual(((25,) * 32, [5] * 32), (found, table))
