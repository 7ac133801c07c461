"""Whether a journal, the rows of what was said on the wire, can be one."""

from plugtree.packets import is_packet
from plugtree.room import BEGINNING_ROOM, FRAME_ROOM, TURN_ROOM

FRAME_NUMBERS = 2048
TOKENS = ("out", "in", "setup")
# Who may say what, by what was said ahead.
FREE = (("host", "frame"), ("host", "out"), ("host", "in"), ("host", "setup"))
BEGINNING = (("host", "frame"),)
BEHIND_OUT = (("host", "data"),)
ANSWERS_TO_PIECE = (("thing", "ack"), ("thing", "nak"), ("thing", "stall"))
ANSWERS_TO_IN = (("thing", "data"), ("thing", "nak"), ("thing", "stall"))
BEHIND_GIVEN = (("host", "ack"),)


def said_behind(row):
    """Who may say what behind a row that was said at its place."""
    _, speaker, packet, came = row
    word = packet[0]
    # The host sends its piece whether its token came or not.
    if word in ("out", "setup"):
        return BEHIND_OUT
    if not came:
        return FREE
    if word == "in":
        return FREE + ANSWERS_TO_IN
    if word == "data":
        return FREE + ANSWERS_TO_PIECE if speaker == "host" else BEHIND_GIVEN
    return FREE


def is_numbered(row, ahead):
    """Whether a row has the right frame; ahead is the frame of the row ahead, or -1 where there is none."""
    frame, _, packet, _ = row
    if packet[0] != "frame":
        return frame == ahead
    if frame < 0 or packet[1] != frame % FRAME_NUMBERS:
        return False
    return ahead < 0 or frame == ahead + 1


def room_behind(room, packet):
    """The room of a frame that is taken behind a packet."""
    if packet[0] == "frame":
        return BEGINNING_ROOM
    if packet[0] in TOKENS:
        return room + TURN_ROOM
    if packet[0] == "data":
        return room + len(packet[2])
    return room


def first_wrong(rows):
    """The number of the first wrong row of a journal, or -1."""
    may_be_said = BEGINNING
    frame = -1
    room = 0
    for at, row in enumerate(rows):
        packet = row[2]
        if (row[1], packet[0]) not in may_be_said or not is_packet(packet) or not is_numbered(row, frame):
            return at
        room = room_behind(room, packet)
        if room > FRAME_ROOM:
            return at
        may_be_said = said_behind(row)
        frame = row[0]
    return -1
