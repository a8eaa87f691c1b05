"""The error classes of pairhues.errors."""

import unittest

from pairhues import errors

NAMES = ("BadCount", "BadSide", "BadEnd", "TooMany", "NoPair", "BadHue", "NotFree", "BadLine")


class ErrorsTest(unittest.TestCase):

    def test_pair_error_is_straight_under_value_error(self):
        self.assertEqual(errors.PairError.__bases__, (ValueError,))

    def test_each_class_is_straight_under_pair_error(self):
        for name in NAMES:
            with self.subTest(name=name):
                self.assertEqual(getattr(errors, name).__bases__, (errors.PairError,))

    def test_none_is_under_another_one(self):
        for name in NAMES:
            for other in NAMES:
                with self.subTest(name=name, other=other):
                    under = issubclass(getattr(errors, name), getattr(errors, other))
                    self.assertEqual(under, name == other)

    def test_each_class_is_defined_here_by_its_own_name(self):
        for name in ("PairError",) + NAMES:
            with self.subTest(name=name):
                self.assertEqual(getattr(errors, name).__module__, "pairhues.errors")
                self.assertEqual(getattr(errors, name).__name__, name)

    def test_there_is_no_other_class(self):
        classes = [name for name in vars(errors) if isinstance(vars(errors)[name], type)]
        self.assertEqual(sorted(classes), sorted(("PairError",) + NAMES))

    def test_each_is_caught_as_itself_as_pair_error_and_as_value_error(self):
        for name in NAMES:
            kind = getattr(errors, name)
            for caught in (kind, errors.PairError, ValueError):
                with self.subTest(name=name, caught=caught):
                    with self.assertRaises(caught):
                        raise kind("why")

    def test_each_tells_its_words_and_needs_none(self):
        for name in ("PairError",) + NAMES:
            with self.subTest(name=name):
                self.assertEqual(str(getattr(errors, name)("a few words")), "a few words")
                self.assertEqual(str(getattr(errors, name)()), "")


if __name__ == "__main__":
    unittest.main()
