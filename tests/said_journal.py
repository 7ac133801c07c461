"""Journals by the words of point 13 alone: as patterns over letters, one for each row."""

import re

# What one letter stands for: who speaks, and which packet; small where it didn't come.
LETTERS = {
    ("host", "frame"): "F", ("host", "in"): "I", ("host", "out"): "O", ("host", "setup"): "O", ("host", "data"): "P",
    ("host", "ack"): "H", ("thing", "data"): "D", ("thing", "ack"): "A", ("thing", "nak"): "N", ("thing", "stall"): "N",
}
TURN = "(?:[Oo](?:P[AaNn]?|p)|I(?:DH|Dh|d|[Nn])?|i)"
# What a turn may have begun with where the journal ends.
ENDS = re.compile("(?:[Ff]%s*)*(?:[Oo]|ID)?" % TURN)


def is_said_packet(packet):
    word, rest = packet[0], packet[1:]
    if word in ("ack", "nak", "stall"):
        return rest == ()
    if word == "frame":
        return len(rest) == 1 and rest[0] in range(2048)
    if word in ("out", "in", "setup"):
        return len(rest) == 2 and rest[0] in range(128) and rest[1] in range(16)
    return (word == "data" and len(rest) == 2 and rest[0] in (0, 1) and isinstance(rest[1], tuple)
            and len(rest[1]) < 65 and all(byte in range(256) for byte in rest[1]))


def letter(row):
    _, speaker, packet, came = row
    found = LETTERS.get((speaker, packet[0]), "?")
    return found if came else found.lower()


def has_room(rows):
    """Whether the last frame of some rows has room for them."""
    taken = 0
    for _, _, packet, _ in rows:
        if packet[0] == "frame":
            taken = 6
        elif packet[0] == "data":
            taken += len(packet[2])
        elif packet[0] in ("in", "out", "setup"):
            taken += 13
    return taken <= 1500


def has_frames(rows):
    """Whether the last row has the right frame."""
    frame, packet = rows[-1][0], rows[-1][2]
    if packet[0] != "frame":
        return len(rows) > 1 and frame == rows[-2][0]
    if frame < 0 or packet[1] != frame - frame // 2048 * 2048:
        return False
    return len(rows) == 1 or frame == rows[-2][0] + 1


def said_first_wrong(rows, known=0):
    """The first row at which the rows are no beginning of a journal; so many are known to be right."""
    for k in range(known, len(rows)):
        some = rows[:k + 1]
        if not is_said_packet(some[-1][2]) or not has_frames(some):
            return k
        begins = [at for at, row in enumerate(some) if row[2][0] == "frame"]
        # With the frame ahead, whose last turn must have come to its end.
        letters = "".join(map(letter, some[begins[-2:][0]:]))
        if not (ENDS.fullmatch(letters) and has_room(some[begins[-1]:])):
            return k
    return -1
