"""Points 7 and, of the pieces, 17; the interface's section plugtree/halves.py."""

import itertools
import random

from plugtree.errors import BadNumber
from plugtree.halves import asked, cleared, cut, heard, in_half, out_half, went
from tests.base import SIXTY, Case

MARKS = (0, 1)
TRUTHS = (False, True)
CAME = ((), (7,), (1, 2, 3), tuple(range(200)))
PIECES = ((), (1,), (9, 8, 7), (255,) * 64)
ROOMS = (0, 1, 2, 1000)
# What may wait in a half that gives.
WAITING = ((), ((),), ((5,),), ((1, 2), (3,)), ((1, 2), (3, 4), ()), ((0,) * 64, (255,) * 64, (1,)))
FATES = tuple(itertools.product(range(4), repeat=5))


def joined(pieces):
    return tuple(byte for piece in pieces for byte in piece)


class Fresh(Case):
    def test_fresh_halves(self):
        self.assertEqual((0, False, 0, ()), out_half())
        self.assertEqual((0, False, ()), in_half())
        for half in (out_half(), in_half()):
            self.assertIs(tuple, type(half))
            self.assertIs(int, type(half[0]))
            self.assertIs(False, half[1])

    def test_what_they_say(self):
        self.assertEqual((out_half(), "nak"), heard(out_half(), 0, (1,)))
        self.assertEqual((out_half(), "ack"), heard(out_half(), 1, (1,)))
        self.assertEqual(("nak",), asked(in_half()))
        self.assertEqual(in_half(), went(in_half()))
        self.assertEqual(out_half(), cleared(out_half()))
        self.assertEqual(in_half(), cleared(in_half()))


class Cut(Case):
    def test_written_out(self):
        self.assertEqual([()], cut((), 8))
        self.assertEqual([(1, 2, 3)], cut((1, 2, 3), 8))
        self.assertEqual([(1, 2, 3), (4,)], cut((1, 2, 3, 4), 3))
        self.assertEqual([(1, 2), (3, 4), ()], cut((1, 2, 3, 4), 2))
        self.assertEqual([(1,), (2,), ()], cut((1, 2), 1))

    def test_each_size_and_each_length(self):
        message = tuple(random.Random(7).randrange(256) for _ in range(200))
        for size in range(1, 65):
            for many in range(201):
                data = message[:many]
                pieces = cut(data, size)
                self.assertEqual(data, joined(pieces))
                self.assertEqual([size] * (many // size) + [many % size], [len(piece) for piece in pieces])

    def test_of_whole_pieces_the_last_one_is_empty(self):
        for size in range(1, 65):
            for many in range(4):
                self.assertEqual([(6,) * size] * many + [()], cut((6,) * size * many, size))

    def test_a_list_of_tuples_that_is_the_callers_own(self):
        data = (1, 2, 3, 4, 5)
        pieces = cut(data=data, size=2)
        self.assertIs(list, type(pieces))
        self.assertEqual({tuple}, {type(piece) for piece in pieces})
        pieces.pop()
        self.assertEqual([(1, 2), (3, 4), (5,)], cut(data, 2))
        self.assertEqual((1, 2, 3, 4, 5), data)

    def test_sizes_out_of_bounds_are_refused(self):
        for size in (0, -1, 65, SIXTY, -SIXTY):
            self.refuses(BadNumber, cut, (1, 2, 3), size)
            self.refuses(BadNumber, cut, (), size)


class Heard(Case):
    def test_halted(self):
        for own, mark, room, came, piece in itertools.product(MARKS, MARKS, ROOMS, CAME, PIECES):
            half = (own, True, room, came)
            self.assertEqual((half, "stall"), heard(half, mark, piece))

    def test_another_mark_is_thrown_away(self):
        for own, room, came, piece in itertools.product(MARKS, ROOMS, CAME, PIECES):
            half = (own, False, room, came)
            self.assertEqual((half, "ack"), heard(half, 1 - own, piece))

    def test_no_room(self):
        for own, came, piece in itertools.product(MARKS, CAME, PIECES):
            half = (own, False, 0, came)
            self.assertEqual((half, "nak"), heard(half, own, piece))

    def test_taken(self):
        for own, room, came, piece in itertools.product(MARKS, ROOMS[1:], CAME, PIECES):
            behind = (1 - own, False, room - 1, came + piece)
            self.assertEqual((behind, "ack"), heard((own, False, room, came), own, piece))

    def test_room_for_an_empty_piece_is_taken_too(self):
        self.assertEqual(((1, False, 0, ()), "ack"), heard((0, False, 1, ()), 0, ()))
        self.assertEqual(((0, False, 0, ()), "nak"), heard((0, False, 0, ()), 0, ()))

    def test_kinds(self):
        for half, mark in itertools.product(((0, False, 2, (1,)), (1, False, 2, (1,)), (0, True, 2, (1,))), MARKS):
            pair = heard(half, mark, (5,))
            self.assertEqual((tuple, tuple, str), (type(pair), type(pair[0]), type(pair[1])))
            self.assertEqual([int, bool, int, tuple], [type(part) for part in pair[0]])

    def test_by_name_and_left_as_it_was(self):
        half, piece = (0, False, 2, (1,)), (5, 6)
        self.assertEqual(((1, False, 1, (1, 5, 6)), "ack"), heard(half=half, mark=0, data=piece))
        self.assertEqual(((0, False, 2, (1,)), (5, 6)), (half, piece))

    def test_marks_out_of_bounds_are_refused(self):
        for halted, room, mark in itertools.product(TRUTHS, (0, 1), (-1, 2, SIXTY, -SIXTY)):
            self.refuses(BadNumber, heard, (0, halted, room, ()), mark, (1,))


class Gives(Case):
    def test_asked_where_it_is_halted(self):
        for mark, pieces in itertools.product(MARKS, WAITING):
            self.assertEqual(("stall",), asked((mark, True, pieces)))

    def test_asked_where_it_has_none(self):
        for mark in MARKS:
            self.assertEqual(("nak",), asked((mark, False, ())))

    def test_asked_where_it_has_some(self):
        for mark, pieces in itertools.product(MARKS, WAITING[1:]):
            self.assertEqual(("data", mark, pieces[0]), asked((mark, False, pieces)))

    def test_went(self):
        for mark, pieces in itertools.product(MARKS, WAITING[1:]):
            self.assertEqual((1 - mark, False, pieces[1:]), went((mark, False, pieces)))

    def test_went_leaves_it_where_it_is_halted_or_has_none(self):
        for mark, pieces in itertools.product(MARKS, WAITING):
            self.assertEqual((mark, True, pieces), went((mark, True, pieces)))
        for mark in MARKS:
            self.assertEqual((mark, False, ()), went((mark, False, ())))

    def test_kinds(self):
        for half in itertools.product(MARKS, TRUTHS, WAITING):
            self.assertIs(tuple, type(asked(half)))
            for behind in (went(half), cleared(half)):
                self.assertEqual([int, bool, tuple], [type(part) for part in behind])

    def test_by_name_and_left_as_it_was(self):
        half = (1, False, ((1, 2), (3,)))
        self.assertEqual(("data", 1, (1, 2)), asked(half=half))
        self.assertEqual((0, False, ((3,),)), went(half=half))
        self.assertEqual((0, False, ()), cleared(half=half))
        self.assertEqual((1, False, ((1, 2), (3,))), half)

    def test_pieces_that_stand_in_a_list_are_left_as_they_were(self):
        pieces = cut((1, 2, 3), 2)
        half = (1, False, pieces)
        self.assertEqual(("data", 1, (1, 2)), asked(half))
        behind = went(half)
        self.assertEqual((0, False, [(3,)]), behind)
        behind[2].append((4,))
        self.assertEqual(0, len(cleared(half)[2]))
        self.assertEqual((1, False, [(1, 2), (3,)]), half)


class Cleared(Case):
    def test_one_that_takes_keeps_room_and_bytes(self):
        for mark, halted, room, came in itertools.product(MARKS, TRUTHS, ROOMS, CAME):
            half = cleared((mark, halted, room, came))
            self.assertEqual((0, False, room, came), half)
            self.assertIs(False, half[1])

    def test_one_that_gives_has_no_pieces(self):
        for mark, halted, pieces in itertools.product(MARKS, TRUTHS, WAITING):
            half = cleared((mark, halted, pieces))
            self.assertEqual((0, False, ()), half)
            self.assertIs(False, half[1])


class Giver:
    """A host's side of a pipe to a thing, by points 12 and 16: a piece is given till it is acknowledged."""

    def __init__(self, pieces, before=()):
        self.mark = 0
        self.before = before
        self.waiting = list(pieces)
        self.acknowledged = []

    def turn(self, half, fate):
        """The half behind a turn."""
        answer = None
        if fate in (0, 3):
            half, answer = heard(half, self.mark, self.waiting[0])
        if fate == 0 and answer == "ack":
            self.mark = 1 - self.mark
            self.acknowledged.append(self.waiting.pop(0))
        return half

    def may_have_come(self):
        """What came before and all that was acknowledged, and that with the piece that was given last."""
        return [self.before + joined(self.acknowledged + self.waiting[:many]) for many in (0, 1)]


class Taker:
    """A host's side of a pipe from a thing: it throws away pieces of the mark that isn't due."""

    def __init__(self):
        self.due = 0
        self.taken = []
        self.said = []

    def turn(self, half, fate):
        """The half behind a turn."""
        if fate == 1:
            return half
        packet = asked(half)
        if fate == 2:
            return half
        self.said.append(packet)
        if packet[0] != "data":
            return half
        if packet[1] == self.due:
            self.due = 1 - self.due
            self.taken.append(packet[2])
        return half if fate == 3 else went(half)


class Pipes(Case):
    def out_turns(self, giver, half, fates):
        """The half behind some turns."""
        for fate in fates:
            if giver.waiting:
                half = giver.turn(half, fate)
                self.assertIn(half[3], giver.may_have_come())
        return half

    def in_turns(self, taker, half, message, fates):
        """The half behind some turns with a thing that gives a message."""
        for fate in fates:
            half = taker.turn(half, fate)
            taken = joined(taker.taken)
            self.assertEqual(message[:len(taken)], taken)
        return half

    def test_out_with_room(self):
        for fates, many in itertools.product(FATES, (0, 1, 2, 3, 4, 7)):
            message = tuple(range(50, 50 + many))
            giver = Giver(cut(message, 2), (9, 9))
            half = self.out_turns(giver, (0, False, 1000, (9, 9)), fates)
            half = self.out_turns(giver, half, (0,) * 5)
            self.assertEqual((9, 9) + message, half[3])
            self.assertEqual(1000 - len(giver.acknowledged), half[2])

    def test_out_with_little_room(self):
        for fates, room in itertools.product(FATES, range(5)):
            message = (10, 11, 12, 13, 14, 15, 16)
            giver = Giver(cut(message, 2))
            mark, halted, left, came = self.out_turns(giver, (0, False, room, ()), fates)
            self.assertEqual(message[:2 * (room - left)], came)
            # More room is let, and the rest goes.
            half = self.out_turns(giver, (mark, halted, left + 4, came), (0,) * 5)
            self.assertEqual(message, half[3])

    def test_out_with_room_that_comes_piece_by_piece(self):
        for fates in FATES:
            message = (10, 11, 12)
            giver = Giver(cut(message, 1))
            half = out_half()
            for fate in fates + (0,) * 10:
                half = self.out_turns(giver, half, (fate,))
                half = half[:2] + (1,) + half[3:]
            self.assertEqual(message, half[3])

    def test_out_to_one_that_is_halted(self):
        for fates in FATES:
            giver = Giver(cut((1, 2, 3), 2), (5,))
            half = (0, True, 9, (5,))
            self.assertEqual(half, self.out_turns(giver, half, fates))
            self.assertEqual([], giver.acknowledged)

    def test_out_cleared_and_begun_anew(self):
        for fates in FATES:
            for many in range(6):
                first = Giver(cut((1, 2, 3, 4, 5), 2))
                half = cleared(self.out_turns(first, (0, False, 20, ()), fates[:many]))
                second = Giver(cut((6, 7, 8), 2), half[3])
                half = self.out_turns(second, half, fates[many:])
                half = self.out_turns(second, half, (0,) * 3)
                self.assertIn(half[3], [some + (6, 7, 8) for some in first.may_have_come()])

    def test_in(self):
        for fates, many in itertools.product(FATES, (0, 1, 2, 3, 4, 7)):
            message = tuple(range(50, 50 + many))
            pieces = cut(message, 2)
            taker = Taker()
            half = self.in_turns(taker, (0, False, tuple(pieces)), message, fates)
            half = self.in_turns(taker, half, message, (0,) * 5)
            self.assertEqual(pieces, taker.taken)
            self.assertEqual(0, len(half[2]))
            # Whoever has nothing says so, whatever was lost.
            self.assertEqual(half, self.in_turns(taker, half, message, fates))
            self.assertIn(("nak",), taker.said)

    def test_in_of_two_messages(self):
        for fates in FATES:
            first, second = cut((1, 2, 3, 4), 2), cut((5,), 2)
            taker = Taker()
            half = self.in_turns(taker, (0, False, tuple(first + second)), (1, 2, 3, 4, 5), fates)
            self.in_turns(taker, half, (1, 2, 3, 4, 5), (0,) * 5)
            self.assertEqual(first + second, taker.taken)

    def test_in_of_one_that_is_halted(self):
        for fates in FATES:
            taker = Taker()
            half = (0, True, ((1, 2), (3,)))
            self.assertEqual(half, self.in_turns(taker, half, (), fates))
            self.assertLessEqual(set(taker.said), {("stall",)})

    def test_in_cleared_and_begun_anew(self):
        for fates in FATES:
            for many in range(6):
                taker = Taker()
                half = self.in_turns(taker, (0, False, tuple(cut((1, 2, 3, 4), 2))), (1, 2, 3, 4), fates[:many])
                half = cleared(half)
                self.assertEqual((0, False, ()), half)
                pieces = cut((6, 7, 8), 2)
                taker = Taker()
                half = self.in_turns(taker, half[:2] + (tuple(pieces),), (6, 7, 8), fates[many:])
                self.in_turns(taker, half, (6, 7, 8), (0,) * 5)
                self.assertEqual(pieces, taker.taken)
