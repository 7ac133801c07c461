"""The bits of numbers, the lowest first, and the check sums of rows of bits."""

from plugtree.errors import BadNumber

SUM5_MARKS = 5
SUM16_MARKS = 32773


def is_number(value, low, high):
    """Whether a value is a whole number from low to high."""
    return isinstance(value, int) and low <= value <= high


def need_number(number, low, high):
    """Refuse a number that is not from low to high."""
    if not is_number(number, low, high):
        # The number itself is not told: Python refuses to write very large ones.
        raise BadNumber("a number is out of its bounds")


def are_bytes(data):
    """Whether all that stands in a row is bytes."""
    return all([is_number(value, 0, 255) for value in data])


def bits_of(number, many):
    """So many bits of a number, the lowest first, higher ones left out."""
    if number < 0:
        raise BadNumber("a number with bits is not below 0")
    need_number(many, 0, 64)
    return [(number >> place) & 1 for place in range(many)]


def number_of(row):
    """The number of a row of bits, the lowest first."""
    number = 0
    for place, bit in enumerate(row):
        number += bit << place
    return number


def two_bytes(number):
    """The two bytes of sixteen bits, the low one first."""
    return (number & 255, number >> 8)


def turned_about(number, many):
    """The number whose so many bits stand the other way about."""
    return number_of(bits_of(number, many)[::-1])


def check_sum(row, width, marks):
    """The check sum, so many bits wide, of a row of bits by its marks."""
    ones = (1 << width) - 1
    held = ones
    for bit in row:
        highest = held >> (width - 1)
        held = (held << 1) & ones
        if highest != bit:
            held = held ^ marks
    return held ^ ones


def sum5(number):
    """The check sum of a token's or a frame's eleven bits."""
    need_number(number, 0, 2047)
    return check_sum(bits_of(number, 11), 5, SUM5_MARKS)


def sum16(data):
    """The check sum of a row of bytes."""
    if not are_bytes(data):
        raise BadNumber("what is no byte has no sum")
    return check_sum([bit for byte in data for bit in bits_of(byte, 8)], 16, SUM16_MARKS)
