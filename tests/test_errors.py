"""[3] and the interface: the classes of errors.py."""

import unittest

from fewreels import errors

OF_A_TEXT = ("NoWays", "NoRoom", "NoLevel", "NoStanding", "TooMany", "TooFew", "NoPlace", "NoText", "NoLine", "NoBack")
OF_A_NUMBER = ("NoPhase", "Clash")


class Classes(unittest.TestCase):
    def test_reel_error_is_a_value_error(self):
        self.assertEqual(errors.ReelError.__bases__, (ValueError,))

    def test_each_is_straight_under_reel_error(self):
        for name in OF_A_TEXT + OF_A_NUMBER:
            with self.subTest(name=name):
                self.assertEqual(getattr(errors, name).__bases__, (errors.ReelError,))

    def test_none_is_under_another(self):
        classes = [getattr(errors, name) for name in OF_A_TEXT + OF_A_NUMBER]
        for one in classes:
            for other in classes:
                self.assertEqual(issubclass(one, other), one == other)

    def test_each_has_its_own_name(self):
        for name in ("ReelError",) + OF_A_TEXT + OF_A_NUMBER:
            self.assertEqual(getattr(errors, name).__name__, name)


class Made(unittest.TestCase):
    def test_of_a_text(self):
        for name in ("ReelError",) + OF_A_TEXT:
            with self.subTest(name=name):
                kind = getattr(errors, name)
                with self.assertRaises(kind) as caught:
                    raise kind("why it is refused")
                self.assertEqual(str(caught.exception), "why it is refused")
                self.assertIsInstance(caught.exception, errors.ReelError)
                self.assertIsInstance(caught.exception, ValueError)

    def test_of_a_number(self):
        for name in OF_A_NUMBER:
            for at in (0, 1, 399, 10 ** 60):
                with self.subTest(name=name, at=at):
                    kind = getattr(errors, name)
                    with self.assertRaises(kind) as caught:
                        raise kind(at)
                    self.assertEqual(caught.exception.at, at)
                    self.assertIsInstance(caught.exception, errors.ReelError)
                    self.assertIsInstance(caught.exception, ValueError)

    def test_of_a_number_needs_one(self):
        for name in OF_A_NUMBER:
            with self.assertRaises(TypeError):
                getattr(errors, name)()

    def test_the_field_is_each_objects_own(self):
        first, second = errors.NoPhase(1), errors.NoPhase(2)
        self.assertEqual((first.at, second.at), (1, 2))


if __name__ == "__main__":
    unittest.main()
