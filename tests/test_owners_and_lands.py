"""Calls 1 and 2: who's small, and the lands' weights."""

import unittest

from tests.calls import FAR, closing, lands, last, replies, small


class Small(unittest.TestCase):
    def test_answers_0(self):
        self.assertEqual(replies(small(1, 1), small(40, 1), small(1, 0), small(2, 0), small(1, 0)), [0] * 5)

    def test_owners_out_of_range(self):
        for owner in FAR + (0, 41):
            with self.subTest(owner=owner):
                self.assertEqual(last(small(owner, 1)), -3)

    def test_other_than_yes_or_no(self):
        for yes in FAR + (2,):
            with self.subTest(yes=yes):
                self.assertEqual(last(small(1, yes)), -3)

    def test_both_out_of_range(self):
        self.assertEqual(last(small(0, 2)), -3)


class Lands(unittest.TestCase):
    def test_answers_0(self):
        self.assertEqual(replies(lands(1), lands(1000), lands(0, 0, 1), lands(3, 2, 1)), [0] * 4)

    def test_1_to_10_lands(self):
        self.assertEqual(last(lands()), -4)
        self.assertEqual(last(lands(*[1000] * 10)), 0)
        self.assertEqual(last(lands(*[1] * 11)), -4)
        self.assertEqual(last(lands(*[1] * 2000)), -4)

    def test_none_above_0(self):
        self.assertEqual(last(lands(0)), -4)
        self.assertEqual(last(lands(*[0] * 10)), -4)
        self.assertEqual(last(lands(*[0] * 9, 1)), 0)

    def test_weights_out_of_range(self):
        for weight in FAR + (1001, 256000):
            with self.subTest(weight=weight):
                self.assertEqual(last(lands(weight)), -4)
                self.assertEqual(last(lands(5, weight)), -4)
                self.assertEqual(last(lands(weight, 5)), -4)
        self.assertEqual(last(lands(-1, 1)), -4)
        self.assertEqual(last(lands(-5, 10, 5)), -4)

    def test_weights_are_no_text(self):
        self.assertEqual(last(lands(256)), 0)
        self.assertEqual(last(lands(*[256] * 11)), -4)

    def test_neither_is_an_event(self):
        self.assertEqual(replies(small(1, 1), lands(2, 3), closing(1)), [0, 0, 1])


if __name__ == "__main__":
    unittest.main()
