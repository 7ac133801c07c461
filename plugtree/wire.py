"""The wire: turns, their fates, and the journal of what was said."""

from plugtree.journal import FRAME_NUMBERS
from plugtree.room import BEGINNING_ROOM, FRAME_ROOM, cost
from plugtree.tree import ROOT

WELL = 0
TOKEN_LOST = 1
PIECE_LOST = 2
ANSWER_LOST = 3
# What came where nothing did.
NOTHING = ()


class Wire:
    """Carries packets between the host and a tree; what it tells the host is a packet, or NOTHING."""

    def __init__(self, tree):
        self.tree = tree
        self.frame = 0
        # The room that the frame has left.
        self.left = 0
        self.rows = []
        self.fates = []

    def say(self, speaker, packet, came):
        """Write a packet down."""
        self.rows.append((self.frame, speaker, packet, came))

    def begin_frame(self):
        """Begin a frame."""
        self.left = FRAME_ROOM - BEGINNING_ROOM
        self.say("host", ("frame", self.frame % FRAME_NUMBERS), True)

    def end_frame(self):
        """End a frame."""
        self.frame += 1

    def fits(self, size):
        """Whether the frame has room for a turn of a size."""
        return cost(size) <= self.left

    def begin_turn(self, size):
        """Take the room of a turn, and its fate."""
        self.left = self.left - cost(size)
        return self.fates.pop(0) if len(self.fates) > 0 else WELL

    def give(self, token, data, size):
        """A turn in which the host gives a piece, a packet, behind an out or a setup; the answer that came."""
        fate = self.begin_turn(size)
        comes = fate in (WELL, ANSWER_LOST)
        self.say("host", token, fate != TOKEN_LOST)
        self.say("host", data, comes)
        answer = self.answer_to(token, data) if comes else None
        if answer is None:
            return NOTHING
        self.say("thing", (answer,), fate == WELL)
        return (answer,) if fate == WELL else NOTHING

    def answer_to(self, token, data):
        """What a piece that came is answered, or None."""
        word, number, endpoint = token
        name = self.tree.hearer(number, self.frame)
        if name == ROOT:
            return None
        thing = self.tree.thing_of(name)
        if word == "setup":
            return thing.hear_setup(data[2])
        return thing.hear_out(endpoint, data[1], data[2])

    def take(self, token, size):
        """A turn in which the host asks by an in; what the thing said, if it came."""
        fate = self.begin_turn(size)
        self.say("host", token, fate != TOKEN_LOST)
        name = ROOT if fate == TOKEN_LOST else self.tree.hearer(token[1], self.frame)
        if name == ROOT:
            return NOTHING
        thing = self.tree.thing_of(name)
        packet = thing.hear_in(token[2])
        self.tree.obey(name, self.frame)
        if packet is None:
            return NOTHING
        self.say("thing", packet, fate != PIECE_LOST)
        if fate == PIECE_LOST:
            return NOTHING
        if packet[0] == "data":
            self.say("host", ("ack",), fate == WELL)
            if fate == WELL:
                thing.hear_went(token[2])
        return packet

    def twin(self, tree):
        """A wire like it, of another tree."""
        other = Wire(tree)
        other.frame = self.frame
        other.left = self.left
        other.rows = list(self.rows)
        other.fates = list(self.fates)
        return other
