import unittest

from lotdraw import errors

NAMES = (
    "NoNumber", "NoPlan", "TooLong", "NoText", "NoEnd", "TooMany", "NoRow", "NoTelling",
    "NoLot", "NotOnly", "Only", "NoShares", "NoDeed", "NoName", "NoDraw",
)


class Errors(unittest.TestCase):
    def test_the_base_stands_straight_under_value_error(self):
        self.assertEqual(errors.LotError.__bases__, (ValueError,))

    def test_each_refusal_stands_straight_under_the_base(self):
        for name in NAMES:
            with self.subTest(name=name):
                self.assertEqual(getattr(errors, name).__bases__, (errors.LotError,))

    def test_each_name_is_a_class_of_its_own(self):
        classes = [getattr(errors, name) for name in NAMES]
        self.assertEqual(len(set(classes)), len(NAMES))
        self.assertEqual([each.__name__ for each in classes], list(NAMES))

    def test_none_stands_under_another_one(self):
        for name in NAMES:
            for other in NAMES:
                if name != other:
                    self.assertFalse(issubclass(getattr(errors, name), getattr(errors, other)), (name, other))

    def test_no_class_is_missing_or_new(self):
        there = {name for name, thing in vars(errors).items() if isinstance(thing, type)}
        self.assertEqual(there, set(NAMES) | {"LotError"})


if __name__ == "__main__":
    unittest.main()
