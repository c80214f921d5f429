"""Point [42] and the interface: the error classes and their attributes."""

import inspect
import unittest

from rungbounds import errors
from rungbounds.errors import LadderError

# Each class directly under LadderError, with the attribute that it is called with.
ATTRIBUTES = {
    "BadNumber": "value",
    "BadName": "name",
    "TakenName": "name",
    "UnknownName": "name",
    "NoPlace": "place",
    "TooMany": "count",
    "NoSite": "ring",
    "NoShape": "blames",
    "OtherSite": None,
    "BadState": "state",
    "BadLine": "line",
    "NothingToUndo": None,
    "NothingToRedo": None,
    "DeedFailed": "row",
}

SAMPLES = {
    "value": -3,
    "name": "Ash tree",
    "place": 10**40,
    "count": 9,
    "ring": [0, 1, -1],
    "blames": [(0,), (2, 1)],
    "state": "..x",
    "line": 4,
    "row": 0,
}


class ErrorTest(unittest.TestCase):
    def test_base_class_is_a_value_error(self):
        self.assertEqual(LadderError.__bases__, (ValueError,))
        self.assertTrue(str(LadderError("why")))

    def test_there_are_just_these_classes(self):
        classes = {name for name, kind in inspect.getmembers(errors, inspect.isclass)}
        self.assertEqual(classes, {"LadderError", *ATTRIBUTES})

    def test_classes_stand_directly_under_the_base(self):
        for name in ATTRIBUTES:
            with self.subTest(name):
                self.assertEqual(getattr(errors, name).__bases__, (LadderError,))

    def test_attributes_are_what_the_class_was_called_with(self):
        for name, attribute in ATTRIBUTES.items():
            if attribute is None:
                continue
            worth = SAMPLES[attribute]
            with self.subTest(name):
                for error in (getattr(errors, name)(worth), getattr(errors, name)(**{attribute: worth})):
                    self.assertEqual(vars(error), {attribute: worth})
                    self.assertIsInstance(str(error), str)

    def test_classes_without_attributes(self):
        for name, attribute in ATTRIBUTES.items():
            if attribute is not None:
                continue
            with self.subTest(name):
                error = getattr(errors, name)()
                self.assertEqual(vars(error), {})
                self.assertIsInstance(str(error), str)
                with self.assertRaises(TypeError):
                    getattr(errors, name)(1)

    def test_ring_and_blames_are_copies(self):
        for name in ("NoSite", "NoShape"):
            attribute = ATTRIBUTES[name]
            with self.subTest(name):
                given = list(SAMPLES[attribute])
                error = getattr(errors, name)(given)
                kept = getattr(error, attribute)
                self.assertIs(kept.__class__, list)
                self.assertIsNot(kept, given)
                given.clear()
                self.assertEqual(kept, SAMPLES[attribute])
                kept.append(5)
                self.assertEqual(given, [])
                self.assertEqual(getattr(getattr(errors, name)(tuple(SAMPLES[attribute])), attribute), SAMPLES[attribute])

    def test_raised_errors_are_caught_by_the_base(self):
        for name, attribute in ATTRIBUTES.items():
            told = () if attribute is None else (SAMPLES[attribute],)
            with self.subTest(name), self.assertRaises(LadderError):
                raise getattr(errors, name)(*told)


if __name__ == "__main__":
    unittest.main()
