"""Requests to endpoint 0, and the eight bytes that they are on the wire."""

from plugtree.bits import is_number
from plugtree.errors import BadRequest

# With 0 where a request's own number stands.
ROWS = {
    "device": (128, 6, 0, 1, 0, 0, 18, 0),
    "settings": (128, 6, 0, 2, 0, 0, 255, 0),
    "number": (0, 5, 0, 0, 0, 0, 0, 0),
    "set": (0, 9, 0, 0, 0, 0, 0, 0),
    "clear": (2, 1, 0, 0, 0, 0, 0, 0),
    "port": (163, 0, 0, 0, 0, 0, 2, 0),
    "reset": (35, 3, 4, 0, 0, 0, 0, 0),
    "shut": (35, 1, 1, 0, 0, 0, 0, 0),
}
LENGTH = 8
# The place of the number, of requests that have one, and its highest value.
PLACES = {"number": 2, "set": 2, "clear": 4, "port": 4, "reset": 4, "shut": 4}
HIGHEST = {"number": 15, "set": 1, "clear": 255, "port": 4, "reset": 4, "shut": 4}
ASKING = ("device", "settings", "port")


def is_request(request):
    """Whether a tuple is a request."""
    if len(request) == 0 or not isinstance(request[0], str) or request[0] not in ROWS:
        return False
    word = request[0]
    if word not in PLACES:
        return len(request) == 1
    return len(request) == 2 and is_number(request[1], 0, HIGHEST[word])


def need_request(request):
    """Refuse a tuple that is no request."""
    if not is_request(request):
        raise BadRequest("such a tuple is no request")


def request_bytes(request):
    """The bytes of a request."""
    need_request(request)
    word = request[0]
    row = list(ROWS[word])
    if word in PLACES:
        row[PLACES[word]] = request[1]
    return tuple(row)


def likely_request(word, row):
    """The one tuple of a word that might be the request that writes a whole row."""
    if word in PLACES:
        return (word, row[PLACES[word]])
    return (word,)


def read_request(row):
    """The request that writes a row of bytes."""
    if len(row) == LENGTH:
        for word in ROWS:
            request = likely_request(word, row)
            # Written again and compared, a row is looked at whole.
            if is_request(request) and request_bytes(request) == row:
                return request
    raise BadRequest("no request writes such bytes")


def asks(request):
    """Whether a request asks for bytes."""
    need_request(request)
    return request[0] in ASKING
