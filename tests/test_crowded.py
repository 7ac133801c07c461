"""Points 14, 16 and 18 where timed turns leave so little room that a frame's end cuts what the host asks."""

from tests.base import Case
from tests.built import NO_ENDS, crowded_bus, states
from tests.watch import picture

# The timed turns of a frame.
TIMED = [0] * 18
LOOK = [0] * 3


def asked_in(bus, frame):
    """The tokens for endpoint 0 in a frame."""
    return [row[2] for row in bus.journal() if row[0] == frame and len(row[2]) == 3 and row[2][2] == 0
            and row[2][0] != "data"]


class Cut(Case):
    def test_a_look_goes_on_in_the_next_frame(self):
        bus, _ = crowded_bus()
        now = bus.now()
        bus.run(3, TIMED + [1, 1, 0, 1, 1, 0])
        tokens = [("setup", 1, 0)] * 3 + [("in", 1, 0)] * 3
        self.assertEqual(tokens, asked_in(bus, now))
        self.assertEqual([("out", 1, 0)], asked_in(bus, now + 1))
        self.assertEqual([("setup", 1, 0), ("in", 1, 0), ("out", 1, 0)], asked_in(bus, now + 2))

    def test_a_look_at_a_hub_that_goes_is_given_up(self):
        for do in (lambda bus: bus.pull("hub"), lambda bus: bus.reset(1)):
            bus, _ = crowded_bus()
            bus.run(1, TIMED + [1, 1, 0, 1, 1, 0])
            now = bus.now()
            do(bus)
            bus.run(3)
            self.assertEqual([[], [], []], [asked_in(bus, now + k) for k in range(3)])

    def test_a_reset_is_asked_for_anew(self):
        """Between its two turns comes a look at the same hub, by which the hub forgets it."""
        bus, _ = crowded_bus()
        bus.plug("x", NO_ENDS, "hub", 2)
        while states(bus)[(1, 2)] != "seen":
            bus.run()
        bus.host.wire.fates.extend(TIMED + LOOK + [1, 1, 0])
        found = []
        now = bus.now()
        for _ in range(12):
            bus.run()
            found.append(states(bus)[(1, 2)])
        self.assertEqual(["reset", "reset", "first"], found[:3])
        self.assertEqual([("setup", 1, 0), ("in", 1, 0), ("out", 1, 0)] + [("setup", 1, 0)] * 3, asked_in(bus, now))
        again = [("setup", 1, 0), ("in", 1, 0), ("out", 1, 0), ("setup", 1, 0), ("in", 1, 0)]
        self.assertEqual(again, asked_in(bus, now + 1))
        self.assertNotIn("shutting", found)

    def test_turns_without_an_answer_are_counted_from_frame_to_frame(self):
        bus, _ = crowded_bus()
        bus.plug("x", NO_ENDS, "hub", 2)
        while states(bus)[(1, 2)] != "seen":
            bus.run()
        bus.run(1, TIMED + LOOK + [0, 1, 1])
        self.assertEqual("reset", states(bus)[(1, 2)])
        bus.run(1, TIMED + LOOK + [1])
        self.assertEqual("shutting", states(bus)[(1, 2)])

    def test_a_wish_to_clear_is_made_anew(self):
        bus, number = crowded_bus()
        wish = bus.unstall(number, 3, "out")
        now = bus.now()
        bus.run(1, TIMED + LOOK + [0, 1, 1])
        self.assertEqual("waiting", bus.told(wish)[0])
        other = bus.twin()
        bus.run(1)
        self.assertEqual("done", bus.told(wish)[0])
        self.assertEqual([("setup", number, 0), ("in", number, 0), ("in", number, 0)], asked_in(bus, now)[3:])
        self.assertEqual([("setup", number, 0), ("in", number, 0)], asked_in(bus, now + 1)[3:])
        # Its turns without an answer are counted from frame to frame.
        other.run(1, TIMED + LOOK + [1])
        self.assertEqual(("failed", "lost"), other.told(wish)[:2])

    def test_a_wish_of_a_thing_that_goes_is_given_up(self):
        for do, cause in ((lambda bus: bus.pull("c"), "gone"), (lambda bus: bus.reset(bus.number_of("c")), "reset")):
            bus, number = crowded_bus()
            wishes = [bus.unstall(number, k, "out") for k in (3, 4, 3)]
            wishes.append(bus.unstall(bus.number_of("hub"), 1))
            bus.run()
            self.assertEqual(["done", "waiting", "waiting", "waiting"], [bus.told(one)[0] for one in wishes])
            do(bus)
            bus.run(2)
            self.assertEqual([("failed", cause)] * 2 + [("done", "")], [bus.told(one)[:2] for one in wishes[1:]])

    def test_what_goes_on_at_others_is_not_given_up(self):
        bus, number = crowded_bus()
        now = bus.now()
        bus.run(1, TIMED + [1, 1, 0, 1, 1, 0])
        bus.pull("b")
        bus.run()
        self.assertEqual([("out", 1, 0)], asked_in(bus, now + 1)[:1])
        bus, number = crowded_bus()
        wish = bus.unstall(number, 3, "out")
        bus.run(1, TIMED + LOOK + [0, 1, 1])
        bus.pull("b")
        bus.run(1, TIMED[8:] + LOOK + [1])
        self.assertEqual(("failed", "lost"), bus.told(wish)[:2])

    def test_a_wish_of_another_thing_goes_on(self):
        bus, number = crowded_bus()
        wishes = [bus.unstall(number, 4, "out"), bus.unstall(number, 3, "out")]
        bus.run()
        self.assertEqual(["done", "waiting"], [bus.told(one)[0] for one in wishes])
        bus.pull("a")
        bus.pull("hub")
        bus.run()
        self.assertEqual([("done", ""), ("done", "")], [bus.told(one)[:2] for one in wishes])

    def test_twins_of_what_is_cut(self):
        for fates in ([1, 1, 0, 1, 1, 0], LOOK + [0, 1, 1], LOOK + [1, 1, 0], [0, 1, 0, 0, 0, 1]):
            bus, number = crowded_bus()
            bus.plug("x", NO_ENDS, "hub", 2)
            for k in range(9):
                if k % 3 == 0:
                    bus.unstall(number, 3 + k % 2, "out")
                twin, again = bus.twin(), bus.twin()
                self.assertEqual(picture(bus), picture(twin))
                before = picture(bus)
                twin.run(3, [1, 2, 3] * 7)
                self.assertEqual(before, picture(bus))
                bus.run(1, TIMED + fates)
                again.run(1, TIMED + fates)
                self.assertEqual(picture(bus), picture(again))
                bus.host.wire.fates.clear()
