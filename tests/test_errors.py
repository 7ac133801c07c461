"""The interface's section plugtree/errors.py."""

from plugtree import errors
from tests.base import Case

UNDER_BUS_ERROR = (
    "BadNumber", "BadPacket", "BadPlan", "BadRequest", "BadName",
    "Taken", "TooDeep", "Full", "NoRoom", "Halted",
)
UNDER_MISSING = ("NoThing", "NoEnd", "NoPort", "NoTransfer")


class Errors(Case):
    def test_the_two_above_stand_straight_under_pythons_own(self):
        self.assertEqual((ValueError,), errors.BusError.__bases__)
        self.assertEqual((LookupError,), errors.Missing.__bases__)

    def test_each_other_one_stands_straight_under_its_own(self):
        for name in UNDER_BUS_ERROR:
            self.assertEqual((errors.BusError,), getattr(errors, name).__bases__, name)
        for name in UNDER_MISSING:
            self.assertEqual((errors.Missing,), getattr(errors, name).__bases__, name)

    def test_there_are_no_others(self):
        found = [name for name, what in vars(errors).items() if isinstance(what, type)]
        self.assertEqual(sorted(("BusError", "Missing") + UNDER_BUS_ERROR + UNDER_MISSING), sorted(found))

    def test_each_is_raised_and_caught_by_what_it_stands_under(self):
        for name in ("BusError", "Missing") + UNDER_BUS_ERROR + UNDER_MISSING:
            kind = getattr(errors, name)
            told = {"BadPlan": [3], "NoRoom": [[0]]}.get(name, ["why"])
            for above in kind.__mro__[:kind.__mro__.index(Exception) + 1]:
                with self.assertRaises(above):
                    raise kind(*told)

    def test_bad_plan_has_its_place(self):
        for at in (0, 1, 2, 3, 10, 85):
            self.assertEqual(at, errors.BadPlan(at).at)
        self.assertEqual(7, errors.BadPlan(at=7).at)

    def test_no_room_has_its_frames_as_a_list_of_its_own(self):
        handed = [3, 0, 31]
        error = errors.NoRoom(handed)
        self.assertEqual([3, 0, 31], error.frames)
        self.assertIs(list, type(error.frames))
        handed.append(5)
        self.assertEqual([3, 0, 31], error.frames)
        error.frames.append(6)
        self.assertEqual([3, 0, 31, 5], handed)
        self.assertEqual([1], errors.NoRoom(frames=[1]).frames)

    def test_fields_are_each_objects_own(self):
        first, second = errors.NoRoom([1]), errors.NoRoom([2])
        self.assertEqual(([1], [2]), (first.frames, second.frames))
        self.assertNotIn("at", vars(errors.BadPlan))
        self.assertNotIn("frames", vars(errors.NoRoom))
