"""[13]: the errors."""

import unittest

from pullsafe import errors
from pullsafe.errors import PullError, TooMany
from tests.samples import ALL_ERRORS

KEPT = (
    ("BadValue", "at", 3), ("BadText", "at", 0), ("BadGrounds", "at", 12),
    ("NoPort", "path", [0, [1], "x"]), ("NoName", "name", ["a"]),
    ("NoDriver", "word", ["disk"]), ("NotNow", "event", ["host", 0]),
)


class Errors(unittest.TestCase):
    def test_kept_by_position_and_by_name(self):
        for word, name, thing in KEPT:
            kind = getattr(errors, word)
            for error in (kind(thing), kind(**{name: thing})):
                self.assertIs(getattr(error, name), thing)
                self.assertEqual(vars(error), {name: thing})

    def test_any_thing_is_kept_as_it_is(self):
        for word, name, _ in KEPT:
            for thing in (True, None, "", (), [], 0, -1, 10 ** 30, ("host", 0)):
                self.assertIs(getattr(getattr(errors, word)(thing), name), thing)

    def test_too_many_takes_nothing(self):
        self.assertEqual(vars(TooMany()), {})

    def test_classes_and_bases(self):
        self.assertEqual(PullError.__bases__, (Exception,))
        for kind in ALL_ERRORS:
            self.assertEqual(kind.__bases__, (PullError,))
            self.assertEqual(kind.__module__, "pullsafe.errors")

    def test_each_is_caught_by_its_class_and_the_bases_only(self):
        for word, _, thing in KEPT + (("TooMany", None, None),):
            kind = getattr(errors, word)
            error = kind() if kind is TooMany else kind(thing)
            for caught in (kind, PullError, Exception):
                with self.assertRaises(caught) as held:
                    raise error
                self.assertIs(held.exception, error)
            for other in ALL_ERRORS + (ValueError, LookupError, TypeError):
                self.assertEqual(isinstance(error, other), other is kind)

    def test_base_class_is_none_of_them(self):
        self.assertNotIsInstance(PullError(), ALL_ERRORS)


if __name__ == "__main__":
    unittest.main()
