"""The line counter that other tests lean on: it must let short calls through and stop long ones."""

import unittest

from helping import TooLong, within


def walk(far):
    total = 0
    for k in range(far):
        total += k
    return total


def walk_in_a_row(far):
    return len([k for k in range(far)])


class CountingTest(unittest.TestCase):
    def test_a_short_call_is_answered(self):
        self.assertEqual(within(100, walk, 10), 45)

    def test_a_long_call_is_stopped(self):
        for deed in (walk, walk_in_a_row):
            with self.assertRaises(TooLong):
                within(100, deed, 10 ** 30)


if __name__ == "__main__":
    unittest.main()
