"""What the tests share."""

import unittest

# The largest number of sixty figures.
SIXTY = 10 ** 60 - 1


class Case(unittest.TestCase):
    def refuses(self, kind, call, *args, **more):
        """The error of a call that must be refused with this class and no other."""
        with self.assertRaises(kind) as caught:
            call(*args, **more)
        self.assertIs(kind, type(caught.exception), (args, more))
        return caught.exception


def turned(row, place):
    """A row of bytes of which one bit behind the first byte is turned."""
    at = 1 + place // 8
    return row[:at] + (row[at] ^ 1 << place % 8,) + row[at + 1:]


def said_sum(row, many, marks):
    """A check sum by the words of point 2 alone: what is held is a list, its highest bit first."""
    marks = [int(mark) for mark in format(marks, "b").zfill(many)][-many:]
    held = [1] * many
    for bit in row:
        highest = held[0]
        held = held[1:] + [0]
        if highest != bit:
            held = [(one + mark) % 2 for one, mark in zip(held, marks)]
    return int("".join(str(1 - one) for one in held), 2)


def said_bits(number, many):
    """Bits, the lowest first, from Python's own way to write a number."""
    return [int(figure) for figure in format(number, "b").zfill(many)[::-1][:many]]


def said_sum16(data):
    return said_sum([bit for byte in data for bit in said_bits(byte, 8)], 16, 32773)


def replaced(row, place, value):
    """A row or a tuple of parts of which one is another value."""
    return row[:place] + (value,) + row[place + 1:]
