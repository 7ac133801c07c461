"""Plans of things, and the two rows of bytes by which a thing tells its plan."""

from plugtree.bits import is_number, two_bytes
from plugtree.errors import BadPlan

MOST_OF_PARTS = (65535, 65535, 4)
MOST_ENDS = 8
WAYS = ("in", "out")
KIND_BYTES = {"bulk": 2, "timed": 3}
BULK_SIZES = (8, 16, 32, 64)
PERIODS = (1, 2, 4, 8, 16, 32)

DEVICE_LENGTH = 18
# Where maker, model and ports stand.
PART_PLACES = (8, 10, 14)
HUB = 9
HEAD_LENGTH = 18
END_LENGTH = 7
IN_MARK = 128


def fits_kind(kind, size, every):
    """Whether a kind of endpoint has such a size and such a period."""
    if kind == "bulk":
        return size in BULK_SIZES and every == 0
    return kind == "timed" and is_number(size, 1, 64) and every in PERIODS


def is_end(end):
    """Whether an endpoint is good by itself."""
    if len(end) != 5:
        return False
    number, way, kind, size, every = end
    return is_number(number, 1, 7) and way in WAYS and fits_kind(kind, size, every)


def first_bad_end(ends):
    """The number of the first endpoint at fault, or -1."""
    for k, end in enumerate(ends):
        if k == MOST_ENDS or not is_end(end):
            return k
        # "in" stands ahead of "out" in the alphabet, too; the one ahead is good by itself.
        if k > 0 and ends[k - 1][:2] >= end[:2]:
            return k
    return -1


def first_fault(plan):
    """The place of a plan's first part at fault, as BadPlan tells it, or -1."""
    for at, most in enumerate(MOST_OF_PARTS):
        if at >= len(plan) or not is_number(plan[at], 0, most):
            return at
    if len(plan) != 4:
        return 3
    k = first_bad_end(plan[3])
    return -1 if k < 0 else 3 + k


def need_plan(plan):
    """Refuse a plan that is at fault."""
    at = first_fault(plan)
    if at >= 0:
        raise BadPlan(at)


def device_row(plan):
    """The row by which a thing tells who made it and how many ports it has."""
    need_plan(plan)
    maker, model, ports, _ = plan
    hub = HUB if ports > 0 else 0
    return (DEVICE_LENGTH, 1, 16, 1, hub, 0, 0, 8) + two_bytes(maker) + two_bytes(model) + (0, 1, ports, 0, 0, 1)


def address_of(number, way):
    """The byte that tells an endpoint's number and way."""
    return number + IN_MARK if way == "in" else number


def place_of(address):
    """The number and the way that a byte tells."""
    if address >= IN_MARK:
        return (address - IN_MARK, "in")
    return (address, "out")


def end_row(end):
    """The part of a settings row that tells one endpoint."""
    number, way, kind, size, every = end
    return (END_LENGTH, 5, address_of(number, way), KIND_BYTES[kind]) + two_bytes(size) + (every,)


def settings_row(plan):
    """The row by which a thing tells its endpoints."""
    need_plan(plan)
    ends = plan[3]
    row = (9, 2) + two_bytes(HEAD_LENGTH + END_LENGTH * len(ends)) + (1, 1, 0, 128, 50)
    row = row + (9, 4, 0, 0, len(ends), 255, 0, 0, 0)
    for end in ends:
        row = row + end_row(end)
    return row


def number_at(row, place):
    """The number whose two bytes, the low one first, stand at a place of a row."""
    return row[place] + 256 * row[place + 1]


def end_at(settings, start):
    """The endpoint, good or not, that stands in a settings row from a place on."""
    kind = "timed" if settings[start + 3] == KIND_BYTES["timed"] else "bulk"
    return place_of(settings[start + 2]) + (kind, number_at(settings, start + 4), settings[start + 6])


def standing_plan(device, settings):
    """The plan, good or not, that stands in a whole device row and a settings row."""
    # The last place from which a whole endpoint can stand.
    last = len(settings) - END_LENGTH
    ends = [end_at(settings, start) for start in range(HEAD_LENGTH, last + 1, END_LENGTH)]
    maker, model, ports = PART_PLACES
    return (number_at(device, maker), number_at(device, model), device[ports], tuple(ends))


def place_of_fault(at):
    """Where the part of a plan that BadPlan tells by its number stands in the two rows."""
    if at < 3:
        return PART_PLACES[at]
    return DEVICE_LENGTH + HEAD_LENGTH + END_LENGTH * (at - 3)


def first_otherwise(row, right):
    """The first place at which a row is not as another one, or ends ahead of or behind it, or -1."""
    for at, (byte, other) in enumerate(zip(row, right)):
        if byte != other:
            return at
    if len(row) != len(right):
        return min(len(row), len(right))
    return -1


def read_plan(device, settings):
    """The plan that a thing tells by its two rows."""
    if len(device) != DEVICE_LENGTH:
        raise BadPlan(min(DEVICE_LENGTH, len(device)))
    plan = standing_plan(device, settings)
    at = first_fault(plan)
    if at >= 0:
        raise BadPlan(place_of_fault(at))
    at = first_otherwise(device + settings, device_row(plan) + settings_row(plan))
    if at >= 0:
        raise BadPlan(at)
    return plan
