"""Plans by the words of points 4 and 5 alone: which are good, which part is at fault, and both rows."""

import itertools

WAYS = ("in", "out")
BULK_SIZES = (8, 16, 32, 64)
PERIODS = (1, 2, 4, 8, 16, 32)
# What endpoints rise by.
PLACES = tuple(itertools.product(range(1, 8), WAYS))
GOOD_ENDS = frozenset(
    [place + ("bulk", size, 0) for place in PLACES for size in BULK_SIZES]
    + [place + ("timed", size, every) for place in PLACES for size in range(1, 65) for every in PERIODS]
)


def said_fault(plan):
    """The `at` of a plan at fault, or None of a good one."""
    for at, bounds in enumerate((range(65536), range(65536), range(5))):
        if plan[at] not in bounds:
            return at
    places = []
    for k, end in enumerate(plan[3]):
        if end not in GOOD_ENDS or k > 7:
            return 3 + k
        places.append(PLACES.index(end[:2]))
        if places != sorted(set(places)):
            return 3 + k
    return None


def low_high(number):
    return list(number.to_bytes(2, "little"))


def said_device(plan):
    maker, model, ports, _ = plan
    row = [18, 1, 16, 1, 9 if ports else 0, 0, 0, 8, *low_high(maker), *low_high(model), 0, 1, ports, 0, 0, 1]
    return tuple(row)


def said_settings(plan):
    behind = [1, 1, 0, 128, 50, 9, 4, 0, 0, len(plan[3]), 255, 0, 0, 0]
    for number, way, kind, size, every in plan[3]:
        behind += [7, 5, number + {"in": 128, "out": 0}[way], {"bulk": 2, "timed": 3}[kind], *low_high(size), every]
    return tuple([9, 2] + low_high(len(behind) + 4) + behind)


def said_read(device, settings):
    """The plan that two rows tell, or the `at` where they tell none."""
    if len(device) != 18:
        return min(18, len(device))
    ends, rest = [], settings[18:]
    while len(rest) > 6:
        (_, _, address, kind, low, high, every), rest = rest[:7], rest[7:]
        way, number = ("in", address - 128) if address > 127 else ("out", address)
        ends.append((number, way, "timed" if kind == 3 else "bulk", low + 256 * high, every))
    plan = (device[8] + 256 * device[9], device[10] + 256 * device[11], device[14], tuple(ends))
    fault = said_fault(plan)
    if fault is not None:
        return {0: 8, 1: 10, 2: 14}.get(fault, 36 + 7 * (fault - 3))
    for at, (one, other) in enumerate(itertools.zip_longest(device + settings, said_device(plan) + said_settings(plan))):
        if one != other:
            return at
    return plan


def plans_of_numbers():
    """Plans without an endpoint, their numbers at the lowest, the highest and between."""
    numbers = (0, 1, 255, 256, 4660, 65279, 65280, 65534, 65535)
    return [(maker, model, ports, ()) for maker in numbers for model in numbers for ports in range(5)]


def plans_of_one_end():
    """Plans with one endpoint: each that there is."""
    return [(258, 772, 0, (end,)) for end in sorted(GOOD_ENDS)]


EIGHT_OF_BOTH = (
    (1, "in", "bulk", 8, 0), (1, "out", "bulk", 64, 0), (2, "in", "timed", 1, 1), (2, "out", "timed", 64, 32),
    (3, "in", "bulk", 16, 0), (4, "out", "bulk", 32, 0), (5, "in", "timed", 33, 8), (7, "out", "timed", 5, 16),
)
PLAN_OF_EIGHT = (4660, 22136, 4, EIGHT_OF_BOTH)
PLAN_OF_TWO = (65535, 1, 0, ((2, "in", "bulk", 32, 0), (2, "out", "timed", 7, 4)))


def plans_of_eight():
    """Plans with eight endpoints: of both ways and kinds, and of the places that come first and last."""
    found = [PLAN_OF_EIGHT]
    for places in (PLACES[:8], PLACES[-8:], PLACES[::2] + PLACES[-1:], PLACES[:1] + PLACES[1::2]):
        for kinds in ((("bulk", 8, 0),), (("timed", 64, 32),), (("bulk", 64, 0), ("timed", 1, 1))):
            ends = [place + kind for place, kind in zip(places, itertools.cycle(kinds))]
            found.append((1, 2, 3, tuple(ends)))
    return found


def some_good_plans():
    """Good plans of each kind, few enough to do much with each."""
    return plans_of_numbers()[::7] + plans_of_one_end()[::97] + plans_of_eight() + [PLAN_OF_TWO]


def good_plans():
    """All of them."""
    return plans_of_numbers() + plans_of_one_end() + plans_of_eight() + [PLAN_OF_TWO]
