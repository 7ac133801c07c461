"""Point 6, and the interface's section plugtree/requests.py."""

import itertools

from plugtree.errors import BadRequest
from plugtree.requests import asks, read_request, request_bytes
from tests.base import SIXTY, Case, replaced

# As point 6 writes them, with None for the request's own number; its highest one, whether it asks for bytes.
SAID = {
    "device": ((128, 6, 0, 1, 0, 0, 18, 0), None, True),
    "settings": ((128, 6, 0, 2, 0, 0, 255, 0), None, True),
    "number": ((0, 5, None, 0, 0, 0, 0, 0), 15, False),
    "set": ((0, 9, None, 0, 0, 0, 0, 0), 1, False),
    "clear": ((2, 1, 0, 0, None, 0, 0, 0), 255, False),
    "port": ((163, 0, 0, 0, None, 0, 2, 0), 4, True),
    "reset": ((35, 3, 4, 0, None, 0, 0, 0), 4, False),
    "shut": ((35, 1, 1, 0, None, 0, 0, 0), 4, False),
}


def said_requests():
    """All requests, each with its bytes."""
    found = {}
    for word, (row, most, _) in SAID.items():
        if most is None:
            found[(word,)] = row
        else:
            for number in range(most + 1):
                found[(word, number)] = tuple(number if byte is None else byte for byte in row)
    return found


REQUESTS = said_requests()
ROWS = {row: request for request, row in REQUESTS.items()}


class Written(Case):
    def test_written_out(self):
        self.assertEqual((128, 6, 0, 1, 0, 0, 18, 0), request_bytes(("device",)))
        self.assertEqual((128, 6, 0, 2, 0, 0, 255, 0), request_bytes(("settings",)))
        for word, low, high in (
            ("number", (0, 5, 0, 0, 0, 0, 0, 0), (0, 5, 15, 0, 0, 0, 0, 0)),
            ("set", (0, 9, 0, 0, 0, 0, 0, 0), (0, 9, 1, 0, 0, 0, 0, 0)),
            ("clear", (2, 1, 0, 0, 0, 0, 0, 0), (2, 1, 0, 0, 255, 0, 0, 0)),
            ("port", (163, 0, 0, 0, 0, 0, 2, 0), (163, 0, 0, 0, 4, 0, 2, 0)),
            ("reset", (35, 3, 4, 0, 0, 0, 0, 0), (35, 3, 4, 0, 4, 0, 0, 0)),
            ("shut", (35, 1, 1, 0, 0, 0, 0, 0), (35, 1, 1, 0, 4, 0, 0, 0)),
        ):
            self.assertEqual(low, request_bytes((word, 0)))
            self.assertEqual(high, request_bytes((word, SAID[word][1])))

    def test_each_request(self):
        for request, row in REQUESTS.items():
            self.assertEqual(row, request_bytes(request))
            self.assertIs(tuple, type(request_bytes(request)))

    def test_no_two_are_written_alike(self):
        self.assertEqual(len(REQUESTS), len({request_bytes(request) for request in REQUESTS}))

    def test_by_name_and_left_as_it_was(self):
        request = ("clear", 131)
        self.assertEqual((2, 1, 0, 0, 131, 0, 0, 0), request_bytes(request=request))
        self.assertEqual((2, 1, 0, 0, 5, 0, 0, 0), request_bytes(("clear", 5)))
        self.assertEqual((2, 1, 0, 0, 131, 0, 0, 0), request_bytes(request))
        self.assertEqual(("clear", 131), request)


class Asks(Case):
    def test_each_request(self):
        for request in REQUESTS:
            self.assertIs(SAID[request[0]][2], asks(request), request)

    def test_by_name(self):
        self.assertIs(True, asks(request=("port", 0)))
        self.assertIs(False, asks(request=("shut", 4)))


class NotWritten(Case):
    def refused(self, *requests):
        for request in requests:
            self.refuses(BadRequest, request_bytes, request)
            self.refuses(BadRequest, asks, request)

    def test_no_part_at_all(self):
        self.refused(())

    def test_another_word(self):
        for word in ("", "Device", "DEVICE", "devices", "dev", "setting", "numbers", "Set", "sett", "open", "status",
                     "cleared", "ports", "reset ", "shutt", "get", "ack", "setup"):
            self.refused((word,), (word, 0), (word, 1), (word, 0, 0))

    def test_no_word_at_all(self):
        self.refused((0,), (128, 6), (1, "set"), ((),), (("device",),), (["device"],), (None,))

    def test_a_part_too_many(self):
        for request in REQUESTS:
            self.refused(request + (0,), request + (1,), request + request, request + (0, 0))

    def test_a_part_too_few(self):
        for word, (_, most, _) in SAID.items():
            if most is not None:
                self.refused((word,))

    def test_each_number_out_of_its_bounds(self):
        for word, (_, most, _) in SAID.items():
            if most is not None:
                for wrong in (-1, -2, -255, -SIXTY, most + 1, most + 2, most + 16, most + 256, 65535, SIXTY):
                    self.refused((word, wrong))


class Read(Case):
    def test_each_comes_back(self):
        for request, row in REQUESTS.items():
            self.assertEqual(request, read_request(row))
            self.assertEqual(request, read_request(request_bytes(request)))
            self.assertIs(tuple, type(read_request(row)))

    def test_by_name_and_left_as_it_was(self):
        row = (163, 0, 0, 0, 3, 0, 2, 0)
        self.assertEqual(("port", 3), read_request(row=row))
        self.assertEqual((163, 0, 0, 0, 3, 0, 2, 0), row)


class NotRead(Case):
    def as_said(self, row):
        """A row, held against all that requests write."""
        if row in ROWS:
            self.assertEqual(ROWS[row], read_request(row))
        else:
            self.refuses(BadRequest, read_request, row)

    def test_rows_of_another_length(self):
        for many in (0, 1, 2, 3, 4, 5, 6, 7, 9, 10, 16):
            for byte in (0, 5, 128, 255):
                self.refuses(BadRequest, read_request, (byte,) * many)
        for row in ROWS:
            for many in range(8):
                self.refuses(BadRequest, read_request, row[:many])
                self.refuses(BadRequest, read_request, row + row[many:])
            for byte in (0, 1, 255):
                self.refuses(BadRequest, read_request, row + (byte,))

    def test_each_of_eight_numbers_turned(self):
        for request, row in REQUESTS.items():
            others = range(256) if request[1:] in ((), (0,), (1,)) else (0, 1, 4, 15, 16, 128, 255)
            for place, value in itertools.product(range(8), others):
                self.as_said(replaced(row, place, value))

    def test_two_of_eight_numbers_turned(self):
        for row in (REQUESTS[request] for request in REQUESTS if request[1:] in ((), (0,), (1,))):
            for one, two in itertools.combinations(range(8), 2):
                for values in itertools.product((0, 1, 2, 3, 4, 5, 6, 9, 18, 35, 128, 163, 255), repeat=2):
                    self.as_said(replaced(replaced(row, one, values[0]), two, values[1]))

    def test_numbers_that_are_no_bytes(self):
        for row in ROWS:
            for place in range(8):
                for wrong in (-1, 256, 257, row[place] + 256, row[place] - 256, -SIXTY, SIXTY):
                    self.refuses(BadRequest, read_request, replaced(row, place, wrong))

    def test_eight_other_numbers(self):
        for byte in range(256):
            self.refuses(BadRequest, read_request, (byte,) * 8)
        self.refuses(BadRequest, read_request, (0, 5, 16, 0, 0, 0, 0, 0))
        self.refuses(BadRequest, read_request, (0, 9, 2, 0, 0, 0, 0, 0))
        self.refuses(BadRequest, read_request, (163, 0, 0, 0, 5, 0, 2, 0))
        self.refuses(BadRequest, read_request, (35, 3, 4, 0, 5, 0, 0, 0))
        self.refuses(BadRequest, read_request, (35, 1, 1, 0, 5, 0, 0, 0))
