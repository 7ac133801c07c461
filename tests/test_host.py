"""Point 14 at the root: the states of a port, tries, refused and dead ones, numbers, and whoever turns."""

import itertools

from plugtree.errors import NoThing
from tests.base import Case
from tests.built import EIGHT, FOUR, HUB, NO_ENDS, ONE_IN, states
from tests.watch import Watched

# The states through which a port goes that is set up, in their order.
ORDER = ["empty", "shutting", "seen", "reset", "first", "numbering", "asking", "setting", "ready"]
FULL_TIMED = tuple((number, way, "timed", 64, 1) for number in range(1, 5) for way in ("in", "out"))
# 8 * 77 = 616 of 1350: two of them have room, a third hasn't.
GREEDY = (1, 1, 0, FULL_TIMED)


class HostCase(Case):
    def watched(self, *plans):
        """A bus with things of these plans plugged in at the root's ports, called a, b, c, d."""
        found = Watched(self)
        for port, plan in enumerate(plans, 1):
            found.plug("abcd"[port - 1], plan, "", port)
        return found

    def state(self, watched, place=(0, 1)):
        return states(watched.bus)[place]

    def history(self, watched, place=(0, 1), frames=40):
        """The states of a port behind each of some frames, each once."""
        found = [self.state(watched, place)]
        for _ in range(frames):
            watched.run()
            found.append(self.state(watched, place))
        return [state for state, _ in itertools.groupby(found)]

    def run_till(self, watched, state, place=(0, 1), most=100):
        for _ in range(most):
            if self.state(watched, place) == state:
                return
            watched.run()
        self.fail((state, watched.bus.seen()))


class States(HostCase):
    def test_each_in_its_order_frame_by_frame(self):
        for plan in (NO_ENDS, HUB, ONE_IN, FOUR, EIGHT, GREEDY):
            self.assertEqual(ORDER, self.history(self.watched(plan), frames=12))

    def test_a_number_is_told_from_numbering_on(self):
        watched = self.watched(FOUR)
        for _ in range(15):
            _, _, state, number = watched.bus.seen()[0]
            numbered = state in ("numbering", "asking", "setting", "ready")
            self.assertEqual(1 if numbered else 0, number)
            self.assertEqual(1 if state == "ready" else 0, watched.bus.number_of("a"))
            watched.run()

    def test_room_is_set_apart_when_the_plan_is_read(self):
        watched = self.watched(GREEDY)
        for _ in range(15):
            due = 616 if self.state(watched) in ("setting", "ready") else 0
            self.assertEqual([due] * 32, watched.bus.room())
            watched.run()
        watched.pull("a")
        self.assertEqual([616] * 32, watched.bus.room())
        watched.run()
        self.assertEqual([0] * 32, watched.bus.room())

    def test_what_is_asked_of_it(self):
        watched = self.watched(FOUR)
        watched.settle()
        rows = watched.bus.journal()
        asked = [rows[at + 1][2][2] for at, row in enumerate(rows) if row[2][0] == "setup"]
        numbers = [row[2][1] for row in rows if row[2][0] == "setup"]
        self.assertEqual([
            (128, 6, 0, 1, 0, 0, 18, 0), (0, 5, 1, 0, 0, 0, 0, 0), (128, 6, 0, 2, 0, 0, 255, 0), (0, 9, 1, 0, 0, 0, 0, 0),
        ], asked)
        self.assertEqual([0, 0, 1, 1], numbers)

    def test_one_at_a_time_the_least_port_first(self):
        watched = self.watched(FOUR, HUB, EIGHT, NO_ENDS)
        ready = []
        for _ in range(60):
            watched.run()
            for hub, port, state, number in watched.bus.seen():
                if state == "ready" and (hub, port) not in ready:
                    ready.append((hub, port))
                    self.assertEqual(len(ready), number)
        self.assertEqual([(0, 1), (0, 2), (0, 3), (0, 4)], ready)

    def test_an_empty_port(self):
        watched = self.watched()
        self.assertEqual(["empty"], self.history(watched, frames=20))

    def test_whoever_is_pulled_out(self):
        for frames in range(12):
            watched = self.watched(FOUR)
            watched.run(frames)
            before = self.state(watched)
            watched.pull("a")
            # What the host knows turns only when it looks.
            self.assertEqual(before, self.state(watched))
            watched.run()
            self.assertEqual((0, 1, "empty", 0), watched.bus.seen()[0])
            self.refuses(NoThing, watched.bus.plan_of, 1)
            self.assertEqual([0] * 32, watched.bus.room())
            self.assertEqual(["empty"], self.history(watched, frames=20))

    def test_whoever_is_exchanged(self):
        """A port that turns while it is set up, or behind it: another thing is set up from the beginning on."""
        for frames in range(12):
            watched = self.watched(FOUR)
            watched.run(frames)
            watched.pull("a")
            watched.plug("x", EIGHT)
            self.assertEqual(0, watched.bus.number_of("x"))
            watched.run()
            self.assertEqual("shutting", self.state(watched))
            self.assertEqual(ORDER[1:], self.history(watched))
            self.assertEqual((1, EIGHT), (watched.bus.number_of("x"), watched.bus.plan_of(1)))
            watched.look_at_journal()

    def test_a_thing_that_is_plugged_in_elsewhere(self):
        watched = self.watched(FOUR, HUB)
        watched.settle()
        watched.pull("a")
        watched.plug("a", FOUR, "", 3)
        watched.settle()
        self.assertEqual([(0, 1, "empty", 0), (0, 2, "ready", 2), (0, 3, "ready", 1)], watched.bus.seen()[:3])


class Turns(HostCase):
    def test_a_port_that_turned_256_times_looks_as_if_it_had_not(self):
        for times in (1, 127, 128, 129, 256):
            watched = self.watched(FOUR)
            watched.settle()
            bus = watched.bus
            rows = bus.seen()
            for _ in range(times):
                bus.pull("a")
                bus.plug("a", FOUR)
            bus.run(3)
            self.assertEqual(times % 128 == 0, rows == bus.seen())
            self.assertEqual(0, bus.number_of("a"))
            if times % 128 == 0:
                self.assertEqual(FOUR, bus.plan_of(1))
                transfer = bus.send(1, 1, (1,))
                bus.run(20)
                self.assertEqual(("failed", "lost"), bus.told(transfer)[:2])
                # Once more it is seen.
                bus.pull("a")
                bus.run()
                self.assertEqual((0, 1, "empty", 0), bus.seen()[0])

    def test_an_empty_port_that_turned_256_times(self):
        watched = self.watched()
        for _ in range(128):
            watched.plug("a", FOUR)
            watched.pull("a")
        self.assertEqual(["empty"], self.history(watched, frames=5))
        watched.plug("a", FOUR)
        watched.settle()
        self.assertEqual("ready", self.state(watched))


class Tries(HostCase):
    def test_three_tries_and_dead(self):
        for fate in (1, 2, 3):
            for many in range(12):
                watched = self.watched(FOUR)
                watched.run(1, [fate] * many)
                watched.settle_with_fates()
                self.assertEqual("dead" if many >= 9 else "ready", self.state(watched), (fate, many))

    def test_dead_till_it_turns(self):
        watched = self.watched(FOUR)
        watched.run(1, [1] * 9)
        self.run_till(watched, "dead")
        self.assertEqual(0, watched.bus.seen()[0][3])
        self.assertEqual(["dead"], self.history(watched))
        watched.pull("a")
        watched.plug("b", FOUR)
        self.assertEqual(ORDER[1:], self.history(watched)[1:])

    def test_tries_begin_anew_where_it_turned_or_is_reset(self):
        watched = self.watched(FOUR)
        watched.run(1, [1] * 6)
        self.run_till(watched, "ready")
        watched.reset("a")
        watched.run(1, [1] * 6)
        self.run_till(watched, "ready")
        watched.pull("a")
        watched.plug("a", FOUR)
        watched.run(1, [1] * 6)
        self.run_till(watched, "ready")
        watched.pull("a")
        watched.plug("a", FOUR)
        watched.run(1, [1] * 9)
        self.run_till(watched, "dead")

    def test_two_lost_turns_running_again_and_again(self):
        for fate in (1, 2):
            watched = self.watched(FOUR)
            watched.run(1, [fate, fate, 0] * 17)
            self.assertEqual(ORDER[1:], self.history(watched))

    def test_shut_off_and_tried_once_more(self):
        watched = self.watched(FOUR)
        watched.run(1, [1] * 3)
        states_seen = self.history(watched)
        self.assertEqual(["shutting", "seen", "reset", "first"] + ORDER[1:], states_seen)

    def test_each_step_that_fails(self):
        """Three lost turns running, from each turn of a set-up on."""
        watched = self.watched(FOUR)
        watched.settle()
        turns = len([row for row in watched.bus.journal() if row[2][0] in ("in", "out", "setup")])
        # device 5, number 2, settings 8, set 2: 46 bytes are six pieces.
        self.assertEqual(17, turns)
        for at, fate in itertools.product(range(turns), (1, 2)):
            watched = self.watched(FOUR)
            watched.run(1, [0] * at + [fate] * 3)
            states_seen = self.history(watched)
            failed = [5, 7, 15, 17].index(min(end for end in (5, 7, 15, 17) if at < end))
            again = ["first", "numbering", "asking", "setting"][failed]
            first = ORDER[1:ORDER.index(again) + 1]
            self.assertEqual(first + ORDER[1:], states_seen, (at, fate))
            self.assertEqual(1, watched.bus.number_of("a"))
            watched.look_at_journal()

    def test_two_lost_turns_running_do_no_harm(self):
        for at, fate in itertools.product(range(17), (1, 2)):
            watched = self.watched(FOUR)
            watched.run(1, [0] * at + [fate] * 2)
            self.assertEqual(ORDER[1:], self.history(watched), (at, fate))

    def test_an_answer_lost_to_a_number(self):
        # The host has the thing's answer, the thing not the host's: nobody hears the new number.
        watched = self.watched(FOUR)
        watched.run(1, [0] * 6 + [3])
        self.run_till(watched, "asking")
        self.assertEqual(0, watched.bus.tree.thing_of("a").number)
        self.assertEqual(["asking"] + ORDER[1:], self.history(watched))

    def test_other_answers_that_are_lost(self):
        for at in [k for k in range(17) if k != 6]:
            watched = self.watched(FOUR)
            watched.run(1, [0] * at + [3])
            self.assertEqual(ORDER[1:], self.history(watched), at)

    def test_a_thing_that_stalls(self):
        """No thing does so of itself: the test lets one say so at each step."""
        for word in ("first", "numbering", "asking", "setting"):
            watched = self.watched(FOUR)
            self.run_till(watched, word)
            thing = watched.bus.tree.thing_of("a")
            thing.hear_in = lambda endpoint: ("stall",)
            states_seen = self.history(watched)
            self.assertEqual(3, states_seen.count("shutting"), word)
            self.assertEqual("dead", states_seen[-1])
            self.assertEqual(2, states_seen.count("seen"))
            # One stall is enough for a step to fail.
            stalls = [row for row in watched.bus.journal() if row[2] == ("stall",)]
            self.assertEqual(3, len(stalls))

    def test_the_others_go_on(self):
        watched = self.watched(FOUR, EIGHT)
        watched.run(1, [1] * 9)
        watched.settle_with_fates()
        self.assertEqual(["dead", "ready"], [row[2] for row in watched.bus.seen()[:2]])
        self.assertEqual(1, watched.bus.number_of("b"))


class Refused(HostCase):
    def test_for_want_of_room(self):
        watched = self.watched(GREEDY, GREEDY, GREEDY, (2, 2, 0, FULL_TIMED[:1]))
        watched.settle()
        self.assertEqual(["ready", "ready", "refused", "ready"], [row[2] for row in watched.bus.seen()])
        self.assertEqual([1, 2, 0, 3], [row[3] for row in watched.bus.seen()])
        self.assertEqual([1309] * 32, watched.bus.room())
        self.assertEqual(0, watched.bus.number_of("c"))
        self.assertEqual(["refused"], self.history(watched, (0, 3)))
        # Till it turns, also where there is room.
        watched.pull("a")
        watched.run(30)
        self.assertEqual("refused", self.state(watched, (0, 3)))
        watched.pull("c")
        watched.plug("c", GREEDY, "", 3)
        watched.settle()
        self.assertEqual(1, watched.bus.number_of("c"))

    def test_none_of_its_endpoints_is_let_in_then(self):
        late = (3, 3, 0, FULL_TIMED[:1] + ((2, "in", "timed", 50, 1),))
        watched = self.watched(GREEDY, GREEDY, late)
        watched.settle()
        self.assertEqual("refused", self.state(watched, (0, 3)))
        self.assertEqual([1232] * 32, watched.bus.room())

    def test_its_states(self):
        watched = self.watched(GREEDY, GREEDY)
        watched.settle()
        watched.plug("c", GREEDY, "", 3)
        self.assertEqual(
            ["empty", "shutting", "seen", "reset", "first", "numbering", "asking", "shutting", "refused"],
            self.history(watched, (0, 3)))

    def test_for_a_bad_plan(self):
        """No thing tells one of itself: the test spoils one byte of its rows."""
        for word in ("device", "settings"):
            watched = self.watched(FOUR, EIGHT)
            thing = watched.bus.tree.thing_of("a")
            rows = thing.row_for

            def spoilt(request, rows=rows, word=word):
                row = rows(request)
                return row[:1] + (99,) + row[2:] if request == (word,) else row
            thing.row_for = spoilt
            watched.settle()
            self.assertEqual(["refused", "ready"], [row[2] for row in watched.bus.seen()[:2]])
            self.assertEqual([0, 1], [row[3] for row in watched.bus.seen()[:2]])
            self.assertEqual(["refused"], self.history(watched))

    def test_whoever_is_refused_is_shut_off(self):
        watched = self.watched(GREEDY, GREEDY, GREEDY)
        watched.settle()
        bus = watched.bus
        self.assertFalse(bus.tree.is_heard("c", bus.now() + 99))
        self.assertEqual(3, bus.tree.thing_of("c").number)
        watched.plug("d", NO_ENDS, "", 4)
        watched.settle()
        self.assertEqual(3, bus.number_of("d"))
        self.assertEqual(0, bus.number_of("c"))


class Numbers(HostCase):
    def test_the_least_that_is_free(self):
        watched = self.watched(NO_ENDS, FOUR, HUB, EIGHT)
        watched.settle()
        self.assertEqual([1, 2, 3, 4], [watched.bus.number_of(name) for name in "abcd"])
        for order in ("db", "ca", "bd", "abcd", "dcba"):
            for name in order:
                watched.pull(name)
            watched.run()
            for name in order:
                watched.plug(name, NO_ENDS, "", "abcd".index(name) + 1)
            watched.settle()
            # By port, whoever went first.
            freed = sorted("abcd".index(name) for name in order)
            given = [watched.bus.number_of("abcd"[at]) for at in freed]
            self.assertEqual(sorted(given), given)
            self.assertEqual({1, 2, 3, 4}, {watched.bus.number_of(name) for name in "abcd"})

    def test_a_freed_number_is_given_again(self):
        watched = self.watched(NO_ENDS, NO_ENDS)
        watched.settle()
        watched.pull("a")
        watched.plug("c", FOUR, "", 3)
        watched.settle()
        self.assertEqual((1, 2), (watched.bus.number_of("c"), watched.bus.number_of("b")))
        self.assertEqual(FOUR, watched.bus.plan_of(1))

    def test_reset(self):
        watched = self.watched(NO_ENDS, FOUR, GREEDY)
        watched.settle()
        watched.reset("a")
        self.assertEqual((0, 1, "shutting", 0), watched.bus.seen()[0])
        self.assertEqual(0, watched.bus.number_of("a"))
        self.refuses(NoThing, watched.bus.reset, 1)
        watched.plug("d", HUB, "", 4)
        self.assertEqual(ORDER[1:], self.history(watched))
        watched.reset("c")
        # What is left are the two timed endpoints of b: 18 each.
        self.assertEqual([36] * 32, watched.bus.room())
        watched.settle()
        self.assertEqual([1, 2, 3, 4], [watched.bus.number_of(name) for name in "abcd"])

    def test_reset_of_each_while_another_is_set_up(self):
        for frames in range(12):
            for name in "ab":
                watched = self.watched(NO_ENDS, FOUR)
                watched.settle()
                watched.plug("c", EIGHT, "", 3)
                watched.run(frames)
                watched.reset(name)
                watched.settle()
                self.assertEqual({1, 2, 3}, {watched.bus.number_of(each) for each in "abc"})
                watched.look_at_journal()
