"""The refusals: twelve classes straight under StakeError, which stands under ValueError."""

import unittest

from stakefield import errors

NAMES = (
    "NoNumber", "NoMove", "NoField", "Flat", "TooMany", "NotThere",
    "NoWedge", "NoHeart", "NoText", "NoName", "NoRow", "TooGreat",
)


class ErrorsTest(unittest.TestCase):
    def test_any_refusal_is_a_value_error(self):
        self.assertTrue(issubclass(errors.StakeError, ValueError))

    def test_all_twelve_stand_straight_under_stake_error(self):
        for name in NAMES:
            with self.subTest(name=name):
                self.assertEqual(getattr(errors, name).__bases__, (errors.StakeError,))

    def test_none_stands_under_another_one(self):
        for one in NAMES:
            for other in NAMES:
                if one != other:
                    with self.subTest(one=one, other=other):
                        self.assertFalse(issubclass(getattr(errors, one), getattr(errors, other)))

    def test_each_is_raised_and_taken_by_its_own_name(self):
        for name in NAMES:
            own = getattr(errors, name)
            with self.subTest(name=name):
                with self.assertRaises(own) as caught:
                    raise own("why")
                self.assertIsInstance(caught.exception, errors.StakeError)
                self.assertIsInstance(caught.exception, ValueError)


if __name__ == "__main__":
    unittest.main()
