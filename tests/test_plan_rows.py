"""Point 5, and the rest of the interface's section plugtree/plans.py."""

import itertools
import random

from plugtree.errors import BadPlan
from plugtree.plans import device_row, need_plan, read_plan, settings_row
from tests.base import SIXTY, Case, replaced
from tests.said_plans import (
    EIGHT_OF_BOTH, GOOD_ENDS, PLAN_OF_EIGHT, PLAN_OF_TWO, good_plans, said_device, said_fault, said_read,
    said_settings, some_good_plans,
)

BARE_PLAN = (0, 0, 0, ())
FEW = (BARE_PLAN, PLAN_OF_TWO, PLAN_OF_EIGHT)


def both_of(plan):
    return said_device(plan), said_settings(plan)


class Written(Case):
    def test_written_out(self):
        self.assertEqual((18, 1, 16, 1, 0, 0, 0, 8, 0, 0, 0, 0, 0, 1, 0, 0, 0, 1), device_row(BARE_PLAN))
        self.assertEqual((9, 2, 18, 0, 1, 1, 0, 128, 50, 9, 4, 0, 0, 0, 255, 0, 0, 0), settings_row(BARE_PLAN))
        plan = (258, 65534, 4, ((3, "in", "bulk", 64, 0), (3, "out", "timed", 5, 32)))
        self.assertEqual((18, 1, 16, 1, 9, 0, 0, 8, 2, 1, 254, 255, 0, 1, 4, 0, 0, 1), device_row(plan))
        self.assertEqual(
            (9, 2, 32, 0, 1, 1, 0, 128, 50, 9, 4, 0, 0, 2, 255, 0, 0, 0, 7, 5, 131, 2, 64, 0, 0, 7, 5, 3, 3, 5, 0, 32),
            settings_row(plan),
        )

    def test_each_good_plan_by_the_words(self):
        for plan in good_plans():
            self.assertEqual(said_device(plan), device_row(plan), plan)
            self.assertEqual(said_settings(plan), settings_row(plan), plan)

    def test_rows_are_tuples_of_bytes(self):
        for plan in some_good_plans():
            for row in (device_row(plan), settings_row(plan)):
                self.assertIs(tuple, type(row))
                self.assertTrue(all(type(byte) is int and 0 <= byte <= 255 for byte in row))

    def test_by_name_and_left_as_it_was(self):
        plan = (1, 2, 3, ((1, "in", "bulk", 8, 0),))
        self.assertEqual((said_device(plan), said_settings(plan)), (device_row(plan=plan), settings_row(plan=plan)))
        self.assertEqual((1, 2, 3, ((1, "in", "bulk", 8, 0),)), plan)


class Read(Case):
    def test_each_good_plan_comes_back(self):
        for plan in good_plans():
            self.assertEqual(plan, read_plan(device_row(plan), settings_row(plan)))
            self.assertEqual(plan, read_plan(said_device(plan), said_settings(plan)))

    def test_what_is_read_is_a_plan_of_tuples(self):
        for plan in FEW:
            read = read_plan(*both_of(plan))
            self.assertIsNone(need_plan(read))
            self.assertEqual([tuple] * (2 + len(read[3])), [type(read), type(read[3])] + [type(end) for end in read[3]])

    def test_by_name_and_left_as_it_was(self):
        device, settings = both_of(PLAN_OF_TWO)
        kept = tuple(list(device)), tuple(list(settings))
        self.assertEqual(PLAN_OF_TWO, read_plan(settings=settings, device=device))
        self.assertEqual(kept, (device, settings))


class NotRead(Case):
    def refused(self, at, device, settings):
        self.assertEqual(at, self.refuses(BadPlan, read_plan, device, settings).at, (device, settings))

    def as_said(self, device, settings):
        """What two rows tell, held against the words: the plan, or the place."""
        said = said_read(device, settings)
        if isinstance(said, tuple):
            self.assertEqual(said, read_plan(device, settings))
        else:
            self.refused(said, device, settings)
        return said

    def test_a_device_row_of_each_length(self):
        for plan in FEW:
            device, settings = both_of(plan)
            for many in range(18):
                for rest in (settings, (), settings[:-1], settings + (0,)):
                    self.refused(many, device[:many], rest)
                    self.refused(many, (255,) * many, rest)
            for more in ((0,), (0, 0), device, (SIXTY,) * 100):
                self.refused(18, device + more, settings)
                self.refused(18, (255,) * 18 + more, ())

    def test_no_row_at_all(self):
        self.refused(0, (), ())
        self.refused(0, (), said_settings(BARE_PLAN))
        for plan in FEW:
            self.refused(18, said_device(plan), ())

    def test_each_byte_turned(self):
        for plan in FEW:
            both = sum(both_of(plan), ())
            for place, value in itertools.product(range(len(both)), range(256)):
                row = replaced(both, place, value)
                self.as_said(row[:18], row[18:])

    def test_a_byte_that_is_turned_tells_no_more_the_same(self):
        for plan in FEW:
            both = sum(both_of(plan), ())
            for place in range(len(both)):
                row = replaced(both, place, both[place] ^ 1)
                try:
                    self.assertNotEqual(plan, read_plan(row[:18], row[18:]))
                except BadPlan:
                    pass

    def test_two_bytes_turned(self):
        drawn = random.Random(5)
        for plan in FEW:
            both = sum(both_of(plan), ())
            for one, two in itertools.combinations(range(len(both)), 2):
                for _ in range(4):
                    row = replaced(both, one, (both[one] + drawn.choice((1, 2, 127, 128, 129, 255))) % 256)
                    row = replaced(row, two, drawn.choice((0, 1, 2, 3, 5, 7, 8, 9, 18, 64, 128, 131, 255)))
                    self.as_said(row[:18], row[18:])

    def test_of_two_bytes_that_no_plan_has_the_first_is_told(self):
        # Bytes that tell nothing of a plan.
        places = [*range(8), 12, 13, *range(15, 36)]
        for plan in FEW:
            both = sum(both_of(plan), ())
            for one, two in itertools.combinations(places, 2):
                row = replaced(replaced(both, one, both[one] ^ 64), two, both[two] ^ 64)
                self.refused(one, row[:18], row[18:])

    def test_a_settings_row_too_short(self):
        for plan in FEW + (replaced(PLAN_OF_EIGHT, 3, EIGHT_OF_BOTH[:1]),):
            device, settings = both_of(plan)
            for many in range(len(settings)):
                self.as_said(device, settings[:many])
        device, settings = both_of(BARE_PLAN)
        for many in range(18):
            self.refused(18 + many, device, settings[:many])

    def test_a_byte_is_lacking(self):
        # Where nothing ahead is otherwise: a head without its end.
        for plan in FEW:
            device = said_device(plan)
            head = said_settings(replaced(plan, 3, ()))
            self.refused(18 + 17, device, head[:17])
            self.refused(18 + 1, device, head[:1])
            self.refused(18, device, head[:0])

    def test_a_settings_row_too_long(self):
        for plan in FEW + (replaced(PLAN_OF_EIGHT, 3, EIGHT_OF_BOTH[:7]),):
            device, settings = both_of(plan)
            for many in range(1, 23):
                for byte in (0, 7, 8, 255):
                    self.as_said(device, settings + (byte,) * many)
                if many < 7:
                    self.refused(18 + len(settings), device, settings + (0,) * many)

    def test_more_bytes_are_told_behind_what_is_otherwise(self):
        device, settings = both_of(PLAN_OF_TWO)
        self.refused(20, device, replaced(settings, 2, 33) + (0,))
        self.refused(13, replaced(device, 13, 0), settings + (0,))

    def test_a_number_of_ports_that_is_bad(self):
        for plan in FEW:
            device, settings = both_of(plan)
            for wrong in (5, 6, 128, 255, 256, -1, SIXTY, -SIXTY):
                self.refused(14, replaced(device, 14, wrong), settings)
                # What is otherwise ahead of it is not told, and an endpoint at fault isn't either.
                self.refused(14, replaced(replaced(device, 0, 0), 14, wrong), replaced(settings, 0, 0))
                self.refused(14, replaced(device, 14, wrong), settings[:18] + (7, 5, 0, 2, 8, 0, 0))

    def test_a_maker_or_a_model_that_is_bad(self):
        # Only numbers that are no bytes bring it about.
        for plan in FEW:
            device, settings = both_of(plan)
            for at in (8, 10):
                for wrong in (65536, SIXTY, -SIXTY):
                    self.refused(at, replaced(device, at, wrong), settings)
                for wrong in (256, 65536, SIXTY, -1, -SIXTY):
                    self.refused(at, replaced(device, at + 1, wrong), settings)
            self.refused(8, replaced(replaced(device, 9, 256), 11, 256), settings)
            self.refused(10, replaced(replaced(device, 11, 256), 14, 5), settings)

    def test_hubs_and_others(self):
        for ports in range(5):
            plan = (1, 2, ports, ())
            device, settings = both_of(plan)
            self.refused(4, replaced(device, 4, 0 if ports else 9), settings)
            self.refused(4, replaced(device, 4, 8), settings)

    def test_an_endpoint_that_is_bad(self):
        for k, end in enumerate(EIGHT_OF_BOTH):
            place = 18 + 7 * k
            device, settings = both_of(PLAN_OF_EIGHT)
            for at, wrongs in ((2, (0, 8, 127, 128, 136, 255)), (4, (0, 65, 255)), (5, (1, 255)), (6, (3, 5, 255))):
                for wrong in wrongs:
                    self.refused(36 + 7 * k, device, replaced(settings, place + at, wrong))
                    # A byte that is otherwise is told only where the plan is good.
                    self.refused(36 + 7 * k, replaced(device, 0, 0), replaced(settings, place + at, wrong))
            for later in range(k + 1, 8):
                row = replaced(replaced(settings, place + 2, 0), 18 + 7 * later + 2, 0)
                self.refused(36 + 7 * k, device, row)

    def test_endpoints_that_do_not_rise(self):
        device, settings = both_of(PLAN_OF_EIGHT)
        for k in range(7):
            start = 18 + 7 * k
            one, two = settings[start:start + 7], settings[start + 7:start + 14]
            self.refused(36 + 7 * (k + 1), device, settings[:start] + two + one + settings[start + 14:])
            self.refused(36 + 7 * (k + 1), device, settings[:start] + one + one + settings[start + 14:])

    def test_the_ninth(self):
        for many in (9, 10, 20):
            ends = tuple((number, way, "bulk", 8, 0) for number in range(1, 8) for way in ("in", "out"))
            plan = (1, 2, 3, (ends * 2)[:many])
            self.refused(36 + 7 * 8, *both_of(plan))

    def test_the_plan_that_stands_is_read_whatever_the_head_says(self):
        device, settings = both_of(PLAN_OF_TWO)
        for wrong in (0, 1, 3, 8, 255):
            self.refused(18 + 13, device, replaced(settings, 13, wrong))
        for wrong in (0, 18, 31, 33, 255):
            self.refused(18 + 2, device, replaced(settings, 2, wrong))
        self.refused(18 + 3, device, replaced(settings, 3, 1))

    def test_a_kind_is_timed_by_3_else_bulk(self):
        device, settings = both_of((1, 2, 0, ((1, "in", "bulk", 8, 0),)))
        for kind in (0, 1, 4, 130, 131, 255):
            self.refused(18 + 21, device, replaced(settings, 21, kind))
        self.refused(36, device, replaced(settings, 21, 3))
        timed = settings_row((1, 2, 0, ((1, "in", "timed", 8, 1),)))
        self.refused(36, device, replaced(timed, 21, 2))
        self.refused(36, device, replaced(timed, 21, 131))

    def test_numbers_that_are_no_bytes(self):
        for plan in FEW:
            both = sum(both_of(plan), ())
            for place in range(len(both)):
                for wrong in (both[place] + 256, both[place] - 256, -1, 256, SIXTY, -SIXTY):
                    row = replaced(both, place, wrong)
                    self.assertNotIsInstance(self.as_said(row[:18], row[18:]), tuple)

    def test_drawn_plans_that_may_be_at_fault(self):
        drawn = random.Random(36)
        good = sorted(GOOD_ENDS)
        seen = set()
        for _ in range(3000):
            ends = drawn.sample(good, drawn.randrange(10))
            if drawn.random() < 0.8:
                ends = sorted(ends)
            plan = (drawn.randrange(65536), drawn.randrange(65536), drawn.randrange(6), tuple(ends))
            device, settings = both_of(plan)
            said = self.as_said(device, settings)
            fault = said_fault(plan)
            self.assertEqual(plan if fault is None else 14 if fault == 2 else 36 + 7 * (fault - 3), said)
            seen.add(fault)
        self.assertLessEqual({None, 2, 4, 5, 6, 11}, seen)
