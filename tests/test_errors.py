"""latepresses.errors."""

import unittest

from latepresses import errors

NAMES = (
    "InvalidLevel", "InvalidKind", "InvalidGame", "InvalidWorld", "InvalidThing", "InvalidPress", "InvalidRows",
    "InvalidNumber", "InvalidSlot", "InvalidCell", "InvalidTrace", "InvalidMenu", "InvalidPlan", "InvalidPair",
    "InvalidScript", "InvalidCode", "InvalidKnown", "InvalidTick", "InvalidHouse", "InvalidLetter", "InvalidPlace",
    "InvalidPaper", "InvalidName", "UnknownName", "WrongKind", "NothingToUndo", "Unreadable", "Unorderly", "Clash",
    "Left")
VALUES = (0, -7, 10 ** 20, "a text", "", (1, ("two", ())), (), None)


class TestErrors(unittest.TestCase):
    def test_there_are_thirty_and_each_is_one_of_its_own(self):
        self.assertEqual(len(set(NAMES)), 30)
        for name in NAMES:
            made = getattr(errors, name)
            self.assertEqual(made.__bases__, (errors.GameError,))
            self.assertEqual((made.__name__, made.__module__), (name, "latepresses.errors"))
        self.assertEqual(errors.GameError.__bases__, (ValueError,))

    def test_made_by_position_and_by_name(self):
        for name in (*NAMES, "GameError"):
            made = getattr(errors, name)
            for value in VALUES:
                self.assertEqual(made(value).value, value)
                self.assertEqual(made(value=value).value, value)
                self.assertIs(type(made(value).value), type(value))

    def test_exactly_one_argument(self):
        for name in (*NAMES, "GameError"):
            made = getattr(errors, name)
            for wrong in ((), (1, 2)):
                with self.assertRaises(TypeError):
                    made(*wrong)

    def test_raised_and_caught_by_its_own_name_and_those_above(self):
        for name in NAMES:
            made = getattr(errors, name)
            for caught in (made, errors.GameError, ValueError):
                for error in (made(("in", 3)), made(value=("in", 3))):
                    try:
                        raise error
                    except caught as e:
                        self.assertEqual(e.value, ("in", 3))

    def test_caught_by_no_other_class_of_the_list(self):
        for name in NAMES:
            for other in NAMES:
                caught = isinstance(getattr(errors, name)(1), getattr(errors, other))
                self.assertEqual(caught, name == other)

    def test_the_value_is_set_on_each_object_by_itself(self):
        one, other = errors.InvalidCell(1), errors.InvalidCell(2)
        self.assertEqual((one.value, other.value), (1, 2))
