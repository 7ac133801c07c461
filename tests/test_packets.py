"""Point 3, and the interface's section plugtree/packets.py."""

import itertools
import random

from plugtree.errors import BadPacket
from plugtree.packets import packet_bytes, read_packet
from tests.base import SIXTY, Case, said_bits, said_sum, said_sum16, turned

FIRST = {"out": 0xE1, "ack": 0xD2, "frame": 0xA5, "in": 0x69, "nak": 0x5A, "setup": 0x2D, "stall": 0x1E}
FIRST_OF_DATA = (0xC3, 0x4B)
TOKENS = ("out", "in", "setup")
ANSWERS = ("ack", "nak", "stall")


def filled(row):
    """Bytes that are filled with bits from the lowest on."""
    return tuple(sum(bit << at for at, bit in enumerate(row[k:k + 8])) for k in range(0, len(row), 8))


def highest_first(number, many):
    return said_bits(number, many)[::-1]


def said_bytes(packet):
    """A packet's bytes by the words of point 3."""
    word = packet[0]
    if word in ANSWERS:
        return (FIRST[word],)
    if word == "data":
        return (FIRST_OF_DATA[packet[1]],) + packet[2] + filled(highest_first(said_sum16(packet[2]), 16))
    eleven = said_bits(packet[1] if word == "frame" else packet[1] + 128 * packet[2], 11)
    return (FIRST[word],) + filled(eleven + highest_first(said_sum(eleven, 5, 5), 5))


def short_packets():
    """All tokens and frames."""
    found = [("frame", number) for number in range(2048)]
    for word, number, endpoint in itertools.product(TOKENS, range(128), range(16)):
        found.append((word, number, endpoint))
    return found


def edges():
    """Packets of each word at their lowest and highest, and some between."""
    found = [(word,) for word in ANSWERS]
    for word, number, endpoint in itertools.product(TOKENS, (0, 1, 64, 126, 127), (0, 1, 8, 14, 15)):
        found.append((word, number, endpoint))
    found += [("frame", number) for number in (0, 1, 255, 256, 1024, 2046, 2047)]
    for mark, many, byte in itertools.product((0, 1), (0, 1, 2, 8, 63, 64), (0, 1, 128, 255)):
        found.append(("data", mark, (byte,) * many))
    return found


def drawn_data():
    """Data of either mark of each length up to 64 bytes."""
    drawn = random.Random(3)
    found = []
    for many, mark in itertools.product(range(65), (0, 1)):
        found.append(("data", mark, tuple(drawn.randrange(256) for _ in range(many))))
    return found


class Written(Case):
    def test_each_first_byte(self):
        for packet, code in (
            (("out", 5, 6), 1), (("ack",), 2), (("data", 0, (7,)), 3), (("frame", 9), 5), (("in", 5, 6), 9),
            (("nak",), 10), (("data", 1, (7,)), 11), (("setup", 5, 6), 13), (("stall",), 14),
        ):
            self.assertEqual(code + 16 * (15 - code), packet_bytes(packet)[0], packet)

    def test_written_out(self):
        # As the bus that this one is like writes them.
        self.assertEqual((0xA5, 0x00, 0x10), packet_bytes(("frame", 0)))
        self.assertEqual((0xA5, 0x01, 0xE8), packet_bytes(("frame", 1)))
        self.assertEqual((0x2D, 0x00, 0x10), packet_bytes(("setup", 0, 0)))
        self.assertEqual((0x69, 0x00, 0x10), packet_bytes(("in", 0, 0)))
        self.assertEqual((0xE1, 0x01, 0xE8), packet_bytes(("out", 1, 0)))
        self.assertEqual((0xC3, 0x00, 0x00), packet_bytes(("data", 0, ())))
        self.assertEqual((0x4B, 0x00, 0x00), packet_bytes(("data", 1, ())))
        request = (0x80, 0x06, 0x00, 0x01, 0x00, 0x00, 0x40, 0x00)
        self.assertEqual((0xC3,) + request + (0xDD, 0x94), packet_bytes(("data", 0, request)))
        self.assertEqual(((0xD2,), (0x5A,), (0x1E,)), tuple(packet_bytes((word,)) for word in ANSWERS))

    def test_edges_by_the_words(self):
        for packet in edges():
            row = packet_bytes(packet)
            self.assertEqual(said_bytes(packet), row, packet)
            self.assertIs(tuple, type(row))

    def test_all_tokens_and_frames_by_the_words(self):
        for packet in short_packets():
            self.assertEqual(said_bytes(packet), packet_bytes(packet), packet)

    def test_drawn_data_by_the_words(self):
        for packet in drawn_data():
            self.assertEqual(said_bytes(packet), packet_bytes(packet), packet)

    def test_by_name_and_left_as_it_was(self):
        packet = ("data", 1, (1, 2, 3))
        packet_bytes(packet=packet)
        self.assertEqual(("data", 1, (1, 2, 3)), packet)


class NotWritten(Case):
    def refused(self, *packets):
        for packet in packets:
            self.refuses(BadPacket, packet_bytes, packet)

    def test_other_words(self):
        for word in ("", "OUT", "Ack", "outs", "o", "data0", "sof", "pre", "none", "in ", "ou", "ackn"):
            self.refused((word,), (word, 0), (word, 0, 0), (word, 0, ()))

    def test_a_word_with_parts_of_another(self):
        self.refused(("frame", 0, 0), ("ack", 0), ("ack", 0, 0), ("out",), ("in", 5), ("setup", 5), ("data",))
        self.refused(("data", 0, 0), ("out", 0, ()), ("frame", ()), ("out", (), 0), ("data", (), ()), ("data", (), 0))

    def test_a_part_too_many_or_too_few(self):
        for packet in edges():
            self.refused(packet[:-1], packet + (0,), packet + ((),), packet + packet)
        self.refused(())

    def test_tokens_out_of_bounds(self):
        for word in TOKENS:
            for number in (-1, -128, -SIXTY, 128, 256, 2048, SIXTY):
                self.refused((word, number, 0), (word, number, 15), (word, number, -1))
            for endpoint in (-1, -16, -SIXTY, 16, 17, 128, SIXTY):
                self.refused((word, 0, endpoint), (word, 127, endpoint), (word, 128, endpoint))

    def test_frames_out_of_bounds(self):
        for number in (-1, -2048, -SIXTY, 2048, 2049, 4096, SIXTY):
            self.refused(("frame", number))

    def test_marks_out_of_bounds(self):
        for mark in (-1, -2, 2, 3, 11, SIXTY, -SIXTY):
            self.refused(("data", mark, ()), ("data", mark, (1, 2)), ("data", mark, (0,) * 64))

    def test_bytes_out_of_bounds(self):
        for wrong in (-1, -256, -SIXTY, 256, 257, SIXTY, 10 ** 5000):
            for many in (1, 2, 64):
                for place in range(many):
                    row = tuple(wrong if at == place else at for at in range(many))
                    self.refused(("data", 0, row), ("data", 1, row))

    def test_too_many_bytes(self):
        for many in (65, 66, 128, 1000):
            self.refused(("data", 0, (0,) * many), ("data", 1, (255,) * many))


class Read(Case):
    def test_each_packet_is_given_back(self):
        for packet in edges() + short_packets() + drawn_data():
            self.assertEqual(packet, read_packet(packet_bytes(packet)))

    def test_a_packet_is_a_tuple_and_so_are_its_bytes(self):
        for packet in edges():
            read = read_packet(said_bytes(packet))
            self.assertIs(tuple, type(read))
            self.assertEqual([type(part) for part in packet], [type(part) for part in read])

    def test_by_name_and_left_as_it_was(self):
        row = (0xC3, 1, 2) + filled(highest_first(said_sum16((1, 2)), 16))
        kept = tuple(row)
        self.assertEqual(("data", 0, (1, 2)), read_packet(row=row))
        self.assertEqual(kept, row)


class NotRead(Case):
    def refused(self, *rows):
        for row in rows:
            self.refuses(BadPacket, read_packet, row)

    def test_no_byte_at_all(self):
        self.refused(())

    def test_first_bytes_that_no_packet_has(self):
        known = tuple(FIRST.values()) + FIRST_OF_DATA
        for first in (*range(-300, 600), SIXTY, -SIXTY):
            if first not in known:
                self.refused((first,), (first, 0, 0), (first, 0, 0x10), (first, 1, 0xE8), (first, 7, 7, 7))

    def test_rows_too_short_or_too_long(self):
        for packet in edges():
            row = said_bytes(packet)
            self.refused(row + (0,), row + row[-1:])
            if packet[0] != "data":
                self.refused(*[row[:many] for many in range(len(row))])
        self.refused((0xC3,), (0xC3, 0), (0x4B,), (0x4B, 0), (0xD2, 0, 0), (0xA5,), (0xA5, 0))
        for packet in drawn_data():
            # Bytes that are lacking or too many leave a row whose last two are another row's sum.
            row = said_bytes(packet)
            for other in (row[:-1], row[:1] + row[2:], row + (0, 0), row + (1,)):
                if len(other) < 3 or other[-2:] != filled(highest_first(said_sum16(other[1:-2]), 16)):
                    self.refused(other)

    def test_data_of_more_than_64_bytes(self):
        for many in (65, 66, 100, 1000):
            for first in FIRST_OF_DATA:
                data = (5,) * many
                self.refused((first,) + data + filled(highest_first(said_sum16(data), 16)))

    def test_numbers_that_are_no_bytes(self):
        for packet in edges():
            row = said_bytes(packet)
            for place in range(len(row)):
                near = (row[place] + 256, row[place] - 256, row[place] + 2 ** 64, -1, -row[place] - 1, SIXTY, -SIXTY)
                for wrong in near:
                    self.refused(row[:place] + (wrong,) + row[place + 1:])

    def test_numbers_that_are_no_bytes_under_a_sum_that_fits(self):
        for wrong in (256, -1, 1000):
            row = (0, wrong, 0)
            bits = [bit for byte in row for bit in said_bits(byte % 256, 8)]
            self.refused((0xC3,) + row + filled(highest_first(said_sum(bits, 16, 32773), 16)))

    def test_wrong_sums(self):
        for packet in (("out", 5, 3), ("in", 127, 15), ("setup", 0, 0), ("frame", 1000)):
            row = said_bytes(packet)
            for five in range(1, 32):
                self.refused(row[:2] + (row[2] ^ five << 3,))
        for packet in (("data", 0, ()), ("data", 1, (1, 2, 3))):
            row = said_bytes(packet)
            for low, high in itertools.product(range(256), (0, 1, 128, 255)):
                if (low, high) != (0, 0):
                    self.refused(row[:-2] + (row[-2] ^ low, row[-1] ^ high))


class Turned(Case):
    def test_just_what_is_written_is_read_of_tokens_and_frames(self):
        written = {packet_bytes(packet): packet for packet in short_packets()}
        for first, low, high in itertools.product((0xE1, 0x69, 0x2D, 0xA5), range(256), range(256)):
            row = (first, low, high)
            try:
                self.assertEqual(written.get(row), read_packet(row))
            except BadPacket:
                self.assertNotIn(row, written)

    def test_one_or_two_bits_of_each_token_and_frame(self):
        # With the test above: none of these rows is read.
        places = list(itertools.combinations(range(16), 1)) + list(itertools.combinations(range(16), 2))
        marks = [sum(1 << place for place in some) for some in places]
        behind = {}
        for packet in short_packets():
            row = packet_bytes(packet)
            behind.setdefault(row[0], set()).add(row[1] + 256 * row[2])
        for numbers in behind.values():
            self.assertEqual(2048, len(numbers))
            for mark in marks:
                self.assertFalse(numbers & {number ^ mark for number in numbers}, mark)

    def test_one_or_two_bits_of_some_tokens_and_frames_are_refused(self):
        for packet in (("out", 0, 0), ("in", 85, 10), ("setup", 127, 15), ("frame", 0), ("frame", 2047)):
            row = packet_bytes(packet)
            for one in range(16):
                self.refuses(BadPacket, read_packet, turned(row, one))
                for two in range(one):
                    self.refuses(BadPacket, read_packet, turned(turned(row, one), two))

    def test_one_bit_of_data_is_refused(self):
        for packet in drawn_data()[::7] + [("data", 0, ()), ("data", 1, (0,) * 64)]:
            row = packet_bytes(packet)
            for place in range(8 * len(row) - 8):
                self.refuses(BadPacket, read_packet, turned(row, place))

    def test_two_bits_of_short_data_are_refused(self):
        for packet in drawn_data()[:10]:
            row = packet_bytes(packet)
            for one, two in itertools.combinations(range(8 * len(row) - 8), 2):
                self.refuses(BadPacket, read_packet, turned(turned(row, one), two))

    def test_two_bits_of_data_are_refused_at_drawn_places(self):
        drawn = random.Random(64)
        for packet in drawn_data():
            row = packet_bytes(packet)
            for _ in range(60):
                one, two = drawn.sample(range(8 * len(row) - 8), 2)
                self.refuses(BadPacket, read_packet, turned(turned(row, one), two))
