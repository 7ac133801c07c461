"""Packets, and the bytes that they are on the wire."""

from plugtree.bits import are_bytes, is_number, sum5, sum16, turned_about, two_bytes
from plugtree.errors import BadPacket

TOKENS = ("out", "in", "setup")
ANSWERS = ("ack", "nak", "stall")
CODES = {"out": 1, "ack": 2, "frame": 5, "in": 9, "nak": 10, "setup": 13, "stall": 14}
DATA_CODES_BY_MARK = (3, 11)
MOST_DATA = 64


def is_token(packet):
    """Whether a tuple is a token: (word, number, endpoint)."""
    if len(packet) != 3 or packet[0] not in TOKENS:
        return False
    return is_number(packet[1], 0, 127) and is_number(packet[2], 0, 15)


def is_frame(packet):
    """Whether a tuple is a frame's beginning: ("frame", number)."""
    return len(packet) == 2 and packet[0] == "frame" and is_number(packet[1], 0, 2047)


def is_piece(value):
    """Whether a value is a row of bytes that data can carry."""
    return isinstance(value, tuple) and len(value) <= MOST_DATA and are_bytes(value)


def is_data(packet):
    """Whether a tuple is data: ("data", mark, bytes)."""
    if len(packet) != 3 or packet[0] != "data":
        return False
    return is_number(packet[1], 0, 1) and is_piece(packet[2])


def is_answer(packet):
    """Whether a tuple is an answer: its word alone."""
    return len(packet) == 1 and packet[0] in ANSWERS


def is_packet(packet):
    """Whether a tuple is a packet."""
    return is_token(packet) or is_frame(packet) or is_data(packet) or is_answer(packet)


def first_byte(code):
    """The byte with which packets of a code begin."""
    return code + 16 * (15 - code)


def short_bytes(code, number):
    """The bytes of a token or a frame, whose eleven bits are those of the number."""
    return (first_byte(code),) + two_bytes(number + 2048 * turned_about(sum5(number), 5))


def data_bytes(mark, data):
    """The bytes of data of a mark."""
    return (first_byte(DATA_CODES_BY_MARK[mark]),) + data + two_bytes(turned_about(sum16(data), 16))


def packet_bytes(packet):
    """The bytes of a packet."""
    if is_token(packet):
        return short_bytes(CODES[packet[0]], packet[1] + 128 * packet[2])
    if is_frame(packet):
        return short_bytes(CODES["frame"], packet[1])
    if is_data(packet):
        return data_bytes(packet[1], packet[2])
    if is_answer(packet):
        return (first_byte(CODES[packet[0]]),)
    raise BadPacket("such a tuple is no packet")


def packet_of_word(word, row):
    """The one packet of a word, not of data, that might write a row, or () where there is none."""
    if word in ANSWERS:
        return (word,)
    if len(row) != 3:
        return ()
    number = (row[1] + 256 * row[2]) & 2047
    if word == "frame":
        return (word, number)
    return (word, number & 127, number >> 7)


def likely_packet(row):
    """The one tuple that might be the packet that writes a row, or () where there is none."""
    if len(row) == 0:
        return ()
    for word in CODES:
        if row[0] == first_byte(CODES[word]):
            return packet_of_word(word, row)
    for mark in (0, 1):
        if row[0] == first_byte(DATA_CODES_BY_MARK[mark]):
            return ("data", mark, row[1:-2])
    return ()


def read_packet(row):
    """The packet that writes a row of bytes."""
    packet = likely_packet(row)
    # Written again and compared, a row is looked at whole: its sum, its length and each number in it.
    if packet_bytes(packet) != row:
        raise BadPacket("no packet writes such bytes")
    return packet
