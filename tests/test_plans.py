"""Point 4, and of the interface's section plugtree/plans.py what it says of need_plan."""

import itertools
import random

from plugtree.errors import BadPlan
from plugtree.plans import device_row, need_plan, settings_row
from tests.base import SIXTY, Case, replaced
from tests.said_plans import (
    EIGHT_OF_BOTH, GOOD_ENDS, PLACES, PLAN_OF_EIGHT, PLAN_OF_TWO, good_plans, said_fault, some_good_plans,
)

# Of each part its values out of bounds.
BAD_PARTS = (
    (-1, 65536, 65537, 131072, SIXTY, -SIXTY),
    (-1, 65536, 65537, 131072, SIXTY, -SIXTY),
    (-1, 5, 6, 127, 255, SIXTY, -SIXTY),
)


def bad_by_itself(end):
    """Endpoints that differ from a good one in one part, or in kind and what hangs on it, and are bad."""
    number, way, _, size, every = end
    found = [replaced(end, 0, wrong) for wrong in (0, -1, 8, 15, 128, 129, SIXTY, -SIXTY)]
    found += [replaced(end, 1, wrong) for wrong in ("", "IN", "Out", "i", "setup", "inout", "both", "in ")]
    found += [replaced(end, 2, wrong) for wrong in ("", "Bulk", "TIMED", "control", "bulks", "iso", "timeds", "zoned")]
    for wrong in (-8, -1, 0, 1, 4, 7, 9, 15, 17, 24, 31, 33, 48, 63, 65, 128, 256, 512, SIXTY, -SIXTY):
        found.append((number, way, "bulk", wrong, 0))
    for wrong in (-64, -1, 0, 65, 66, 128, 256, 257, 512, SIXTY, -SIXTY):
        found += [(number, way, "timed", wrong, period) for period in (1, 8, 32)]
    for wrong in (-1, 1, 2, 4, 8, 16, 32, 64, 255, SIXTY, -SIXTY):
        found += [(number, way, "bulk", good, wrong) for good in (8, 16, 32, 64)]
    for wrong in (-1, 0, 3, 5, 6, 7, 9, 12, 15, 17, 24, 31, 33, 48, 64, 128, 255, SIXTY, -SIXTY):
        found += [(number, way, "timed", good, wrong) for good in (1, 8, 64)]
    found += [(), end[:4], end + (0,), (number, way, size, every)]
    return found


class Good(Case):
    def test_each_is_taken(self):
        for plan in good_plans():
            self.assertIsNone(said_fault(plan))
            self.assertIsNone(need_plan(plan), plan)

    def test_any_two_endpoints_that_rise(self):
        for one, two in itertools.combinations(PLACES, 2):
            for kinds in itertools.product((("bulk", 8, 0), ("timed", 9, 1)), repeat=2):
                self.assertIsNone(need_plan((0, 0, 0, (one + kinds[0], two + kinds[1]))))

    def test_each_count_of_endpoints(self):
        for many in range(9):
            self.assertIsNone(need_plan(replaced(PLAN_OF_EIGHT, 3, EIGHT_OF_BOTH[:many])))

    def test_by_name_and_left_as_it_was(self):
        plan = (1, 2, 3, ((1, "in", "bulk", 8, 0),))
        self.assertIsNone(need_plan(plan=plan))
        self.assertEqual((1, 2, 3, ((1, "in", "bulk", 8, 0),)), plan)


class Bad(Case):
    def at_of(self, plan):
        """The place that all three that look at a plan tell."""
        found = [self.refuses(BadPlan, call, plan).at for call in (need_plan, device_row, settings_row)]
        self.assertEqual(found[:1] * 3, found, plan)
        return found[0]

    def refused(self, at, plan):
        self.assertEqual(at, self.at_of(plan), plan)

    def test_each_number_out_of_its_bounds(self):
        for plan in some_good_plans():
            for at, wrongs in enumerate(BAD_PARTS):
                for wrong in wrongs:
                    self.refused(at, replaced(plan, at, wrong))

    def test_of_two_numbers_the_first_is_told(self):
        for plan in (PLAN_OF_EIGHT, (0, 0, 0, ()), (65535, 65535, 4, ())):
            for one, two in itertools.combinations(range(3), 2):
                for wrongs in itertools.product(BAD_PARTS[one], BAD_PARTS[two]):
                    self.refused(one, replaced(replaced(plan, one, wrongs[0]), two, wrongs[1]))

    def test_a_number_is_told_ahead_of_an_endpoint(self):
        for at, wrongs in enumerate(BAD_PARTS):
            for ends in (((0, "in", "bulk", 8, 0),), EIGHT_OF_BOTH[::-1], EIGHT_OF_BOTH + EIGHT_OF_BOTH):
                self.refused(at, replaced((1, 2, 3, ends), at, wrongs[0]))

    def test_each_part_of_an_endpoint(self):
        for plan in (PLAN_OF_EIGHT, PLAN_OF_TWO, (0, 0, 0, ((1, "in", "timed", 64, 1),))):
            ends = plan[3]
            for k in (0, len(ends) // 2, len(ends) - 1):
                for wrong in bad_by_itself(ends[k]):
                    self.assertNotIn(wrong, GOOD_ENDS)
                    self.refused(3 + k, replaced(plan, 3, replaced(ends, k, wrong)))

    def test_of_two_endpoints_the_first_is_told(self):
        for one, two in itertools.combinations(range(8), 2):
            for wrong in bad_by_itself(EIGHT_OF_BOTH[one])[::9]:
                for other in bad_by_itself(EIGHT_OF_BOTH[two])[::11]:
                    ends = replaced(replaced(EIGHT_OF_BOTH, one, wrong), two, other)
                    self.refused(3 + one, replaced(PLAN_OF_EIGHT, 3, ends))

    def test_the_ninth(self):
        rising = tuple(place + ("bulk", 8, 0) for place in PLACES)
        for many in range(9, len(rising) + 1):
            self.refused(11, (1, 2, 3, rising[:many]))
        self.refused(11, (1, 2, 3, EIGHT_OF_BOTH + ((0, "", "", 0, 0),)))
        for k in range(8):
            ends = replaced(rising[:9], k, (0, "in", "bulk", 8, 0))
            self.refused(3 + k, (1, 2, 3, ends))

    def test_two_exchanged(self):
        for one, two in itertools.combinations(range(8), 2):
            ends = list(EIGHT_OF_BOTH)
            ends[one], ends[two] = ends[two], ends[one]
            # The first one that isn't behind the one ahead comes straight behind what was moved down.
            self.refused(3 + one + 1, replaced(PLAN_OF_EIGHT, 3, tuple(ends)))

    def test_one_twice(self):
        for k in range(7):
            ends = EIGHT_OF_BOTH[:k + 1] + EIGHT_OF_BOTH[k:7]
            self.refused(3 + k + 1, replaced(PLAN_OF_EIGHT, 3, ends))
        for place in PLACES:
            for kinds in itertools.product((("bulk", 8, 0), ("bulk", 64, 0), ("timed", 1, 1)), repeat=2):
                self.refused(4, (0, 0, 0, tuple(place + kind for kind in kinds)))

    def test_any_two_that_do_not_rise(self):
        for one, two in itertools.combinations_with_replacement(PLACES, 2):
            self.refused(4, (0, 0, 0, (two + ("timed", 1, 1), one + ("bulk", 8, 0))))

    def test_out_ahead_of_in_of_the_same_number(self):
        for number in range(1, 8):
            self.refused(4, (0, 0, 0, ((number, "out", "bulk", 8, 0), (number, "in", "bulk", 8, 0))))

    def test_one_behind_in_order_is_told_ahead_of_one_that_is_bad(self):
        ends = ((2, "in", "bulk", 8, 0), (1, "in", "bulk", 8, 0), (0, "in", "bulk", 8, 0))
        self.refused(4, (0, 0, 0, ends))
        self.refused(4, (0, 0, 0, (ends[0], ends[2], ends[1])))
        self.refused(3, (0, 0, 0, ends[::-1]))

    def test_drawn_endpoints_against_the_words(self):
        drawn = random.Random(4)
        good = sorted(GOOD_ENDS)
        told = []
        for _ in range(4000):
            ends = sorted(drawn.sample(good, drawn.randrange(11)))
            if ends and drawn.random() < 0.5:
                k = drawn.randrange(len(ends))
                ends[k] = drawn.choice(bad_by_itself(ends[k]) + good[:50])
            plan = (drawn.randrange(65536), drawn.randrange(65536), drawn.randrange(5), tuple(ends))
            fault = said_fault(plan)
            told.append(fault)
            if fault is None:
                self.assertIsNone(need_plan(plan), plan)
            else:
                self.refused(fault, plan)
        self.assertEqual({None, *range(3, 12)}, set(told))

    def test_a_part_too_few_or_too_many(self):
        for many in range(4):
            self.refused(many, PLAN_OF_EIGHT[:many])
        self.refused(0, (-1, 0))
        self.refused(3, PLAN_OF_EIGHT + (0,))

    def test_left_as_it_was(self):
        plan = (1, 2, 3, ((1, "out", "bulk", 8, 0), (1, "in", "bulk", 8, 0)))
        self.refused(4, plan)
        self.assertEqual((1, 2, 3, ((1, "out", "bulk", 8, 0), (1, "in", "bulk", 8, 0))), plan)
