"""The errors by which the program refuses what it is asked for."""


class BusError(ValueError):
    """Something that the bus does not do as it was asked for."""


class BadNumber(BusError):
    """A number out of its bounds."""


class BadPacket(BusError):
    """A tuple that is no packet, or bytes that no packet writes."""


class BadPlan(BusError):
    """A plan that is none, or rows that tell none; its field at tells the place."""

    def __init__(self, at):
        super().__init__(f"a plan is bad at {at}")
        self.at = at


class BadRequest(BusError):
    """A tuple that is no request, or bytes that no request writes."""


class BadName(BusError):
    """A name that no thing can have."""


class Taken(BusError):
    """A name or a port that something else has."""


class TooDeep(BusError):
    """A place that is too deep below the root."""


class Full(BusError):
    """A tree that takes no more things."""


class NoRoom(BusError):
    """No phase with room; its field frames has for each phase the first of its fullest frames."""

    def __init__(self, frames):
        super().__init__("no phase has room")
        # A copy: whoever changes the list that was handed in changes nothing here.
        self.frames = list(frames)


class Halted(BusError):
    """A pipe that takes nothing till it is cleared."""


class Missing(LookupError):
    """Something that is asked for and is not there."""


class NoThing(Missing):
    """No such thing."""


class NoEnd(Missing):
    """No such endpoint."""


class NoPort(Missing):
    """No such port."""


class NoTransfer(Missing):
    """No such transfer."""
