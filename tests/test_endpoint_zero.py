"""Point 9: what endpoint 0 of a thing answers to each request, met and not met."""

from plugtree.halves import cut, in_half, out_half
from plugtree.requests import asks, request_bytes
from plugtree.things import Thing
from tests.base import Case
from tests.built import EIGHT, FOUR, HUB, HUB_OF_FOUR, NO_ENDS, ONE_IN, ONE_OUT, ask, set_up_thing, want
from tests.said_plans import EIGHT_OF_BOTH, said_device, said_settings
from tests.test_requests import REQUESTS
from tests.watch import picture

PLANS = (NO_ENDS, HUB, ONE_IN, ONE_OUT, FOUR, HUB_OF_FOUR, EIGHT)
EMPTY = ("data", 1, ())
# Plans with no to eight endpoints: settings rows of all lengths.
BY_LENGTH = [(11, 12, many % 5, EIGHT_OF_BOTH[:many]) for many in range(9)]


def can_meet(plan, level, request):
    """By the words of point 9."""
    word, what = (request + (0,))[:2]
    if word in ("port", "reset", "shut"):
        return 0 < what <= plan[2]
    if word == "clear":
        return level == 1 and (what % 128, ("out", "in")[what // 128]) in [end[:2] for end in plan[3]]
    return True


def things(plan):
    """One that was set up, and one that wasn't."""
    return [Thing(plan), set_up_thing(plan, 5)]


class Refused(Case):
    def stalls(self, thing):
        before = (thing.number, thing.level)
        for _ in range(3):
            self.assertEqual(("stall",), thing.hear_in(0))
            self.assertIsNone(thing.hear_went(0))
            for mark in (0, 1):
                for data in ((), (1,), (0,) * 8, (0,) * 64):
                    self.assertEqual("stall", thing.hear_out(0, mark, data))
        self.assertEqual(before, (thing.number, thing.level))

    def test_what_is_no_request(self):
        row = request_bytes(("device",))
        others = [(), row[:7], row + (0,), (0,) * 7, (0,) * 8, (0,) * 9, (255,) * 8, (1,), (0,) * 64]
        others += [request[:k] + (request[k] ^ 16,) + request[k + 1:] for request in REQUESTS.values() for k in (0, 1, 7)]
        for plan in PLANS:
            for thing in things(plan):
                for row in others:
                    self.assertEqual("ack", thing.hear_setup(data=row))
                    self.stalls(thing)

    def test_what_cannot_be_met(self):
        seen = set()
        for plan in PLANS:
            for thing in things(plan):
                for request, row in REQUESTS.items():
                    if not can_meet(plan, thing.level, request):
                        seen.add(request[0])
                        self.assertEqual("ack", thing.hear_setup(row))
                        self.stalls(thing)
        self.assertEqual({"port", "reset", "shut", "clear"}, seen)

    def test_till_another_request_comes(self):
        for plan in PLANS:
            for thing in things(plan):
                for request, row in REQUESTS.items():
                    thing.hear_setup((9,))
                    self.stalls(thing)
                    thing.hear_setup(row)
                    if can_meet(plan, thing.level, request):
                        self.assertEqual("data", thing.hear_in(0)[0])
                    thing.restart()

    def test_what_went_on_is_given_up_by_it(self):
        thing = set_up_thing(FOUR)
        thing.hear_setup(request_bytes(("number", 9)))
        thing.hear_in(0)
        thing.hear_setup((1, 2, 3))
        thing.hear_went(0)
        self.assertEqual(1, thing.number)
        self.stalls(thing)


class Idle(Case):
    def test_in_is_answered_with_a_nak(self):
        for plan in PLANS:
            for thing in things(plan):
                for _ in range(3):
                    self.assertEqual(("nak",), thing.hear_in(0))
                    self.assertIsNone(thing.hear_went(0))

    def test_pieces(self):
        for thing in things(FOUR):
            before = picture(thing)
            for mark, data in ((0, ()), (0, (1,)), (1, (1,)), (1, (0,) * 8)):
                self.assertEqual("stall", thing.hear_out(0, mark, data))
            # As behind an answer that was lost.
            self.assertEqual("ack", thing.hear_out(0, 1, ()))
            self.assertEqual("ack", thing.hear_out(0, 1, ()))
            self.assertEqual(before, picture(thing))


class Asking(Case):
    def rows(self):
        for plan in PLANS + tuple(BY_LENGTH):
            yield plan, ("device",), said_device(plan)
            yield plan, ("settings",), said_settings(plan)
            for port in range(1, plan[2] + 1):
                yield plan, ("port", port), (0, 0)

    def test_given_in_pieces_of_eight_from_mark_1_on(self):
        lengths = set()
        for plan, request, row in self.rows():
            for thing in things(plan):
                self.assertEqual("ack", thing.hear_setup(request_bytes(request)))
                mark = 1
                for piece in cut(row, 8):
                    for _ in range(3):
                        self.assertEqual(("data", mark, piece), thing.hear_in(0))
                    thing.hear_went(0)
                    mark = 1 - mark
                for _ in range(3):
                    self.assertEqual(("nak",), thing.hear_in(0))
                    self.assertIsNone(thing.hear_went(0))
                self.assertEqual("ack", thing.hear_out(0, 1, ()))
                self.assertEqual("ack", thing.hear_out(0, 1, ()))
                self.assertEqual(("nak",), thing.hear_in(0))
                lengths.add(len(row))
        self.assertLessEqual({2, 18} | {18 + 7 * many for many in range(9)}, lengths)

    def test_a_row_of_whole_pieces_ends_by_an_empty_one(self):
        plan = BY_LENGTH[2]
        self.assertEqual(32, len(said_settings(plan)))
        thing = Thing(plan)
        thing.hear_setup(request_bytes(("settings",)))
        pieces = []
        while thing.hear_in(0) != ("nak",):
            pieces.append(thing.hear_in(0))
            thing.hear_went(0)
        self.assertEqual([8, 8, 8, 8, 0], [len(piece[2]) for piece in pieces])
        self.assertEqual([1, 0, 1, 0, 1], [piece[1] for piece in pieces])

    def test_ended_ahead_of_its_end(self):
        for plan, request, row in self.rows():
            for many in range(len(cut(row, 8)) + 1):
                thing = Thing(plan)
                thing.hear_setup(request_bytes(request))
                for _ in range(many):
                    thing.hear_in(0)
                    thing.hear_went(0)
                self.assertEqual("ack", thing.hear_out(0, 1, ()))
                self.assertEqual(("nak",), thing.hear_in(0))
                self.assertEqual("ack", thing.hear_out(0, 1, ()))

    def test_other_pieces_are_stalled_and_it_goes_on(self):
        for plan, request, row in self.rows():
            thing = Thing(plan)
            thing.hear_setup(request_bytes(request))
            for k, piece in enumerate(cut(row, 8)):
                for mark, data in ((0, ()), (0, (1,)), (1, (1,)), (1, (0,) * 8), (0, (0,) * 64)):
                    self.assertEqual("stall", thing.hear_out(0, mark, data))
                    self.assertEqual(("data", (k + 1) % 2, piece), thing.hear_in(0))
                thing.hear_went(0)

    def test_given_up_by_a_new_request(self):
        for plan in PLANS:
            for request in (("device",), ("settings",)):
                for many in range(4):
                    thing = Thing(plan)
                    thing.hear_setup(request_bytes(("settings",)))
                    for _ in range(many):
                        thing.hear_in(0)
                        thing.hear_went(0)
                    row = said_device(plan) if request == ("device",) else said_settings(plan)
                    self.assertEqual(row, ask(thing, request))

    def test_nothing_is_done_by_it(self):
        for plan, request, row in self.rows():
            thing = set_up_thing(plan, 3)
            for place in [end[:2] for end in plan[3]]:
                thing.stall(*place)
            before = [thing.half(*end[:2]) for end in plan[3]]
            self.assertEqual(row, ask(thing, request))
            self.assertEqual((3, 1), (thing.number, thing.level))
            self.assertEqual(before, [thing.half(*end[:2]) for end in plan[3]])


class Wanting(Case):
    def wishes(self, plan, level):
        return [request for request in REQUESTS if not asks(request) and can_meet(plan, level, request)]

    def test_an_empty_piece_of_mark_1_till_its_answer_comes(self):
        for plan in PLANS:
            for level in (0, 1):
                for request in self.wishes(plan, level):
                    thing = things(plan)[level]
                    self.assertEqual("ack", thing.hear_setup(request_bytes(request)))
                    for _ in range(4):
                        self.assertEqual(EMPTY, thing.hear_in(0))
                    self.assertIsNone(thing.hear_went(0))
                    self.assertEqual(("nak",), thing.hear_in(0))

    def test_pieces_are_stalled_and_it_goes_on(self):
        for plan in PLANS:
            for request in self.wishes(plan, 1):
                thing = set_up_thing(plan, 3)
                thing.hear_setup(request_bytes(request))
                for mark, data in ((0, ()), (1, ()), (1, (1,)), (0, (0,) * 8)):
                    self.assertEqual("stall", thing.hear_out(0, mark, data))
                self.assertEqual(EMPTY, thing.hear_in(0))
                for mark, data in ((0, ()), (1, ()), (1, (1,)), (0, (0,) * 8)):
                    self.assertEqual("stall", thing.hear_out(0, mark, data))
                self.assertEqual(EMPTY, thing.hear_in(0))
                thing.hear_went(0)
                self.assertEqual("ack", thing.hear_out(0, 1, ()))

    def test_a_number_is_taken_only_when_the_answer_came(self):
        for number in range(16):
            thing = set_up_thing(FOUR, 5)
            thing.hear_setup(request_bytes(("number", number)))
            self.assertEqual(5, thing.number)
            # Nothing was given that could have come.
            thing.hear_went(0)
            self.assertEqual(5, thing.number)
            for _ in range(3):
                self.assertEqual(EMPTY, thing.hear_in(0))
                self.assertEqual(5, thing.number)
            thing.hear_went(0)
            self.assertEqual((number, 1), (thing.number, thing.level))
            thing.hear_went(0)
            self.assertEqual(("nak",), thing.hear_in(0))

    def test_a_number_is_given_up_by_a_new_request(self):
        thing = Thing(FOUR)
        thing.hear_setup(request_bytes(("number", 4)))
        thing.hear_in(0)
        want(thing, ("set", 1))
        self.assertEqual((0, 1), (thing.number, thing.level))

    def test_a_level_is_taken_when_in_is_asked_for_the_first_time(self):
        for plan in PLANS:
            for level in (0, 1):
                thing = set_up_thing(plan)
                for place in [end[:2] for end in plan[3]]:
                    thing.stall(*place)
                thing.hear_setup(request_bytes(("set", level)))
                for place in [end[:2] for end in plan[3]]:
                    self.assertTrue(thing.half(*place)[1])
                self.assertEqual(EMPTY, thing.hear_in(0))
                self.assertEqual(level, thing.level)
                if level:
                    for place in [end[:2] for end in plan[3]]:
                        self.assertFalse(thing.half(*place)[1])
                        thing.stall(*place)
                # Once is enough.
                self.assertEqual(EMPTY, thing.hear_in(0))
                if level:
                    for place in [end[:2] for end in plan[3]]:
                        self.assertTrue(thing.half(*place)[1])

    def test_an_endpoint_is_cleared_when_in_is_asked_for_the_first_time(self):
        for plan in (ONE_IN, ONE_OUT, FOUR, HUB_OF_FOUR, EIGHT):
            for place in [end[:2] for end in plan[3]]:
                thing = set_up_thing(plan)
                self.use(thing, place)
                used = thing.half(*place)
                thing.hear_setup(request_bytes(("clear", place[0] + 128 * (place[1] == "in"))))
                self.assertEqual(used, thing.half(*place))
                self.assertEqual(EMPTY, thing.hear_in(0))
                fresh = in_half() if place[1] == "in" else out_half()[:2] + used[2:]
                self.assertEqual(fresh, thing.half(*place))
                self.use(thing, place)
                used = thing.half(*place)
                self.assertEqual(EMPTY, thing.hear_in(0))
                self.assertEqual(used, thing.half(*place))

    def use(self, thing, place):
        endpoint, way = place
        if way == "in":
            thing.load(endpoint, (1, 2, 3))
            thing.load(endpoint, (4,))
            thing.hear_went(endpoint)
        else:
            thing.let(endpoint, 4)
            self.assertEqual("ack", thing.hear_out(endpoint, 0, (6,)))
        thing.stall(endpoint, way)

    def test_a_clear_turns_nothing_at_other_endpoints(self):
        thing = set_up_thing(EIGHT)
        for place in [end[:2] for end in EIGHT[3]]:
            thing.stall(*place)
        want(thing, ("clear", 130))
        self.assertEqual([(2, "in")], [end[:2] for end in EIGHT[3] if not thing.half(*end[:2])[1]])
        want(thing, ("clear", 2))
        self.assertEqual([(2, "in"), (2, "out")], [end[:2] for end in EIGHT[3] if not thing.half(*end[:2])[1]])
