import unittest

from samescreen import errors

NAMES = ("OutOfRange", "NotADeed", "OtherSize", "NoStep", "NoMove")


class Errors(unittest.TestCase):
    def classes(self):
        return [getattr(errors, name) for name in NAMES]

    def test_each_is_directly_below_the_base_class(self):
        self.assertEqual(errors.ScreenError.__bases__, (ValueError,))
        for kind in self.classes():
            self.assertEqual(kind.__bases__, (errors.ScreenError,))

    def test_none_is_a_base_class_of_another_one(self):
        for kind in self.classes():
            caught = [other for other in self.classes() if issubclass(kind, other)]
            self.assertEqual(caught, [kind])

    def test_each_is_caught_as_the_base_class_and_as_a_value_error(self):
        for kind in self.classes() + [errors.ScreenError]:
            for base in (kind, errors.ScreenError, ValueError):
                with self.assertRaises(base) as caught:
                    raise kind(3)
                self.assertIs(type(caught.exception), kind)

    def test_the_integer_is_kept(self):
        for kind in self.classes() + [errors.ScreenError]:
            for at in (0, 1, 2000, -1, 2 ** 32 - 1, 2 ** 70):
                self.assertEqual(kind(at).at, at)
                self.assertIs(type(kind(at).at), int)

    def test_two_errors_do_not_share_the_integer(self):
        first = errors.NotADeed(1)
        second = errors.NotADeed(2)
        self.assertEqual((first.at, second.at), (1, 2))


if __name__ == "__main__":
    unittest.main()
