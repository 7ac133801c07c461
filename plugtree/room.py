"""The room of frames, and how timed endpoints are let in to it.

A table tells for each of the 32 frames of a round the room that timed endpoints take there.
"""

from plugtree.bits import need_number
from plugtree.errors import NoRoom

FRAME_ROOM = 1500
BEGINNING_ROOM = 6
TIMED_ROOM = 1350
TURN_ROOM = 13
ROUND = 32


def cost(size):
    """The room that a turn takes with a piece of a size."""
    need_number(size, 0, 64)
    return size + TURN_ROOM


def bare_table():
    """The table of no endpoints."""
    return (0,) * ROUND


def fullest_frame(table, every, phase):
    """The first of a phase's fullest frames."""
    frames = list(range(phase, ROUND, every))
    most = max([table[frame] for frame in frames])
    return [frame for frame in frames if table[frame] == most][0]


def phase_for(table, size, every):
    """The phase at which a timed endpoint is let in."""
    frames = [fullest_frame(table, every, phase) for phase in range(every)]
    least = min([table[frame] for frame in frames])
    if least + cost(size) > TIMED_ROOM:
        raise NoRoom(frames)
    return [phase for phase in range(every) if table[frames[phase]] == least][0]


def with_end(table, size, every, phase, sign=1):
    """The table with a timed endpoint more, or less by the sign -1."""
    row = list(table)
    for frame in range(phase, ROUND, every):
        row[frame] = row[frame] + sign * cost(size)
    return tuple(row)


def let_in(table, ends):
    """The pair of the table with a plan's timed endpoints and a list of the phases at which they were let in."""
    phases = []
    for number, way, kind, size, every in ends:
        if kind == "timed":
            phase = phase_for(table, size, every)
            table = with_end(table, size, every, phase)
            phases.append(((number, way), phase))
    return (tuple(table), phases)
