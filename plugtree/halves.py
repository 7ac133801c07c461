"""The thing's halves of pipes, and the pieces into which a message is cut.

A half that takes is (mark, halted, room, bytes that came), one that gives (mark, halted, pieces).
"""

from plugtree.bits import need_number

MOST_SIZE = 64


def out_half():
    """A fresh half that takes."""
    return (0, False, 0, ())


def in_half():
    """A fresh half that gives."""
    return (0, False, ())


def cut(data, size):
    """The pieces of a message, each of the size but the last one, which is shorter, perhaps empty."""
    need_number(size, 1, MOST_SIZE)
    # One place more than there are bytes: behind whole pieces alone an empty one tells the end.
    return [data[start:start + size] for start in range(0, len(data) + 1, size)]


def heard(half, mark, data):
    """The pair of the half that takes, behind a piece, and its answer."""
    need_number(mark, 0, 1)
    own, halted, room, came = half
    if halted:
        return (half, "stall")
    if mark != own:
        # It came before, and its answer was lost.
        return (half, "ack")
    if room == 0:
        return (half, "nak")
    return ((1 - own, False, room - 1, came + data), "ack")


def asked(half):
    """What the half that gives says when it is asked: a packet."""
    mark, halted, pieces = half
    if halted:
        return ("stall",)
    if len(pieces) == 0:
        return ("nak",)
    return ("data", mark, pieces[0])


def went(half):
    """The half that gives, behind the answer that its piece came."""
    mark, halted, pieces = half
    if halted or len(pieces) == 0:
        return half
    return (1 - mark, False, pieces[1:])


def cleared(half):
    """A half of either way, cleared."""
    if len(half) == 4:
        return (0, False, half[2], half[3])
    return (0, False, half[2][:0])
