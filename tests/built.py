"""Things and buses, ready to be tested, and ways to look at them."""

from plugtree.bus import Bus
from plugtree.requests import request_bytes
from plugtree.things import Thing
from tests.said_plans import PLAN_OF_EIGHT

NO_ENDS = (1, 2, 0, ())
HUB = (3, 4, 4, ())
ONE_IN = (5, 6, 0, ((1, "in", "bulk", 8, 0),))
ONE_OUT = (7, 8, 0, ((1, "out", "bulk", 8, 0),))
# In and out, bulk and timed.
FOUR = (
    9, 10, 0,
    ((1, "in", "bulk", 8, 0), (1, "out", "bulk", 8, 0), (2, "in", "timed", 5, 1), (2, "out", "timed", 5, 1)),
)
HUB_OF_FOUR = FOUR[:2] + (4,) + FOUR[3:]
EIGHT = PLAN_OF_EIGHT


def ask(thing, request):
    """What a thing gives to a request that asks for bytes, the whole row."""
    found = ()
    thing.hear_setup(request_bytes(request))
    while True:
        packet = thing.hear_in(0)
        found += packet[2]
        thing.hear_went(0)
        if len(packet[2]) < 8:
            thing.hear_out(0, 1, ())
            return found


def want(thing, request):
    """Have a thing do what a request wants."""
    thing.hear_setup(request_bytes(request))
    said = thing.hear_in(0)
    thing.hear_went(0)
    return said


def set_up_thing(plan, number=1):
    thing = Thing(plan)
    want(thing, ("number", number))
    want(thing, ("set", 1))
    return thing


def states(bus):
    """The state of each port, by hub's number and port."""
    return {row[:2]: row[2] for row in bus.seen()}


def run_till_ready(bus, names, most=400):
    """Run till all these are ready; the numbers that they have."""
    for _ in range(most):
        if all(bus.number_of(name) for name in names):
            break
        bus.run()
    numbers = [bus.number_of(name) for name in names]
    assert all(numbers), bus.seen()
    return numbers


def ready_bus(*plans):
    """A bus at whose root's ports things of these plans are ready, called a, b, c, d, with the numbers 1 to 4."""
    bus = Bus()
    for port, plan in enumerate(plans, 1):
        bus.plug("abcd"[port - 1], plan, "", port)
    run_till_ready(bus, "abcd"[:len(plans)])
    return bus


def crowded_bus(many=4):
    """A bus whose frames are all full of timed turns, for some frames a message, with a hub; the number of c.

    The thing c has bulk endpoints 3 and 4, for which there is no room then: 144 are left for a look (63) and 81 more.
    """
    bus = Bus()
    bus.plug("hub", HUB[:3] + (((1, "in", "bulk", 8, 0),),))
    eight = tuple((number, way, "timed", 64, 1) for number in range(1, 5) for way in ("in", "out"))
    bus.plug("a", (1, 1, 0, eight), "", 2)
    bus.plug("b", (1, 1, 0, eight), "", 3)
    timed = ((1, "out", "timed", 64, 1), (2, "out", "timed", 28, 1))
    bus.plug("c", (1, 1, 0, timed + ((3, "out", "bulk", 8, 0), (4, "out", "bulk", 8, 0))), "", 4)
    run_till_ready(bus, ("hub", "a", "b", "c"))
    for name in "abc":
        number = bus.number_of(name)
        for endpoint, way, kind, _, _ in bus.plan_of(number)[3]:
            for _ in range(many if kind == "timed" else 0):
                if way == "in":
                    bus.load(name, endpoint, (1,) * 200)
                    bus.fetch(number, endpoint)
                else:
                    bus.let(name, endpoint, 8 * many)
                    bus.send(number, endpoint, (1,) * 200)
    return bus, bus.number_of("c")


def rows_since(bus, many):
    """The rows of the journal behind the first so many, without those of frames that begin."""
    return [row for row in bus.journal()[many:] if row[2][0] != "frame"]
