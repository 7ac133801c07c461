"""Point 2, and the interface's section plugtree/bits.py."""

import random

from plugtree.bits import bits_of, number_of, sum5, sum16, turned_about, two_bytes
from plugtree.errors import BadNumber
from tests.base import SIXTY, Case, said_bits, said_sum, said_sum16

NUMBERS = (0, 1, 2, 5, 6, 255, 256, 2047, 65535, 2 ** 63, 2 ** 64 - 1, 2 ** 64, 2 ** 64 + 5, 10 ** 59, SIXTY)


class BitsOf(Case):
    def test_the_lowest_stands_first(self):
        self.assertEqual([0, 1, 1, 0], bits_of(6, 4))
        self.assertEqual([1, 0, 0, 0, 0, 0, 0, 0], bits_of(1, 8))
        self.assertEqual([0, 0, 0, 0, 0, 0, 0, 1], bits_of(128, 8))

    def test_higher_ones_are_left_out(self):
        self.assertEqual([1, 1], bits_of(7, 2))
        self.assertEqual([1, 0, 1], bits_of(2 ** 64 + 5, 3))
        self.assertEqual([0] * 64, bits_of(2 ** 64, 64))
        self.assertEqual([1] + [0] * 63, bits_of(2 ** 190 + 1, 64))

    def test_numbers_and_counts_of_all_sizes(self):
        for number in NUMBERS:
            for many in range(65):
                row = bits_of(number, many)
                self.assertEqual(said_bits(number, many), row, (number, many))
                self.assertIs(list, type(row))

    def test_no_bits(self):
        self.assertEqual([], bits_of(0, 0))
        self.assertEqual([], bits_of(SIXTY, 0))

    def test_a_list_that_was_told_is_the_callers_own(self):
        row = bits_of(6, 4)
        row.append(9)
        self.assertEqual([0, 1, 1, 0], bits_of(6, 4))

    def test_by_name(self):
        self.assertEqual([1, 0, 1], bits_of(many=3, number=5))

    def test_numbers_below_0_are_refused(self):
        for number in (-1, -2, -255, -2 ** 64, -SIXTY):
            for many in (0, 1, 8, 64):
                self.refuses(BadNumber, bits_of, number, many)

    def test_counts_out_of_bounds_are_refused(self):
        for many in (-1, -64, -SIXTY, 65, 128, SIXTY):
            for number in (0, 1, SIXTY):
                self.refuses(BadNumber, bits_of, number, many)
        self.refuses(BadNumber, bits_of, -1, 65)


class NumberOf(Case):
    def test_ordinary_rows(self):
        self.assertEqual(6, number_of([0, 1, 1, 0]))
        self.assertEqual(6, number_of((0, 1, 1)))
        self.assertEqual(2 ** 70, number_of([0] * 70 + [1]))
        self.assertEqual(1, number_of(row=[1]))

    def test_no_bits(self):
        self.assertEqual(0, number_of([]))
        self.assertEqual(0, number_of(()))

    def test_it_gives_back_what_bits_of_took_apart(self):
        for number in NUMBERS:
            for many in range(65):
                self.assertEqual(number % 2 ** many, number_of(bits_of(number, many)), (number, many))

    def test_a_row_is_left_as_it_was(self):
        row = [0, 1, 1]
        number_of(row)
        self.assertEqual([0, 1, 1], row)


class TurnedAbout(Case):
    def test_ordinary_numbers(self):
        self.assertEqual(6, turned_about(3, 3))
        self.assertEqual(8, turned_about(1, 4))
        self.assertEqual(0b10110, turned_about(0b01101, 5))
        self.assertEqual(32768, turned_about(number=1, many=16))

    def test_higher_bits_are_left_out(self):
        self.assertEqual(2, turned_about(13, 2))
        self.assertEqual(0, turned_about(2 ** 64, 64))

    def test_0_and_no_bits(self):
        for many in range(65):
            self.assertEqual(0, turned_about(0, many))
        for number in NUMBERS:
            self.assertEqual(0, turned_about(number, 0))

    def test_numbers_and_counts_of_all_sizes(self):
        for number in NUMBERS:
            for many in range(1, 65):
                said = int("".join(str(bit) for bit in said_bits(number, many)), 2)
                self.assertEqual(said, turned_about(number, many), (number, many))

    def test_twice_gives_the_bits_back(self):
        for number in NUMBERS:
            for many in range(65):
                twice = turned_about(turned_about(number, many), many)
                self.assertEqual(number % 2 ** many, twice, (number, many))

    def test_refusals(self):
        for number, many in ((-1, 0), (-1, 8), (-SIXTY, 64), (0, -1), (5, 65), (5, SIXTY), (5, -SIXTY), (-1, 65)):
            self.refuses(BadNumber, turned_about, number, many)


class TwoBytes(Case):
    def test_the_low_one_stands_first(self):
        for number in range(65536):
            self.assertEqual(tuple(number.to_bytes(2, "little")), two_bytes(number))


class Sum5(Case):
    def test_each_number_against_the_words(self):
        for number in range(2048):
            self.assertEqual(said_sum(said_bits(number, 11), 5, 5), sum5(number), number)

    def test_written_out(self):
        # As the bus that this one is like has them.
        self.assertEqual(0b01000, sum5(0))
        self.assertEqual(0b10111, sum5(1))
        self.assertEqual(0b10111, sum5(number=1))

    def test_out_of_bounds_is_refused(self):
        for number in (-1, -2048, -SIXTY, 2048, 2049, 65535, SIXTY):
            self.refuses(BadNumber, sum5, number)


class Sum16(Case):
    def test_no_byte(self):
        self.assertEqual(0, sum16(()))

    def test_each_single_byte_against_the_words(self):
        for byte in range(256):
            self.assertEqual(said_sum16((byte,)), sum16((byte,)), byte)

    def test_sixty_four_bytes(self):
        for data in ((0,) * 64, (255,) * 64, tuple(range(64)), tuple(range(255, 191, -1))):
            self.assertEqual(said_sum16(data), sum16(data))

    def test_drawn_rows_of_all_lengths(self):
        drawn = random.Random(16)
        for many in range(80):
            data = tuple(drawn.randrange(256) for _ in range(many))
            self.assertEqual(said_sum16(data), sum16(data), data)

    def test_written_out(self):
        # As the bus that this one is like has them, where the sums stand turned about.
        self.assertEqual(turned_about(0xB4C8, 16), sum16(tuple(b"123456789")))
        self.assertEqual(turned_about(0x94DD, 16), sum16(data=(128, 6, 0, 1, 0, 0, 64, 0)))

    def test_what_is_no_byte_is_refused_wherever_it_stands(self):
        for wrong in (-1, -SIXTY, 256, 257, 65536, SIXTY, 10 ** 5000):
            self.refuses(BadNumber, sum16, (wrong,))
            for many in (2, 3, 64):
                for place in range(many):
                    row = tuple(wrong if at == place else at for at in range(many))
                    self.refuses(BadNumber, sum16, row)
        self.refuses(BadNumber, sum16, (0, -1, 256, 0))

    def test_a_row_is_left_as_it_was(self):
        row = (1, 2, 3)
        sum16(row)
        self.assertEqual((1, 2, 3), row)
