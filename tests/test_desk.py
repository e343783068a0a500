"""How calls are handed in and answers given back."""

import unittest

from feebooks.desk import answers
from tests.calls import (bounce, charge, closing, deposit, joined, lands, order, pay, refund, replies, schedule, small,
                         undo)

TOLD = (schedule(5, "fee filing 10 above 2 late 50 small 20 shared\nfee copy 3"), small(3, 1), lands(2, 1, 4),
        deposit(1), bounce(2, 10, 1), charge(3), pay(4), order(5), refund(6, 10, 3), closing(7), undo(7))
REFUSED = (schedule(5, "fee"), schedule(5, [256]), schedule(-1, ""), small(0, 0), lands(), lands(1001), deposit(0),
           bounce(8, 10, 3), charge(8, name=""), charge(8, name=[-1]), pay(8, amount=0), order(8, account=21),
           refund(8, 10, 1), refund(8, 9, 3), closing(1), undo(1), undo(3), undo(8))


class Interface(unittest.TestCase):
    def test_each_answer_has_its_length_before_it(self):
        self.assertEqual(answers(joined(TOLD)),
                         [1, 2, 1, 0, 1, 0, 1, 1, 1, 2, 1, 3, 1, 4, 1, 5, 1, 6, 1, 7, 1, 6])

    def test_written_out(self):
        self.assertEqual(answers([0, 5, 7, 102, 101, 101, 32, 97, 32, 49]), [1, 1])
        self.assertEqual(answers([0, 5, 0]), [1, -1000])
        self.assertEqual(answers([1, 3, 1]), [1, 0])
        self.assertEqual(answers([2, 2, 5, 6, 2, 0]), [1, 0, 1, -4])
        self.assertEqual(answers([3, 9, 4, 20, 7, 4, 8, 4, 9]), [1, 1, 1, 2])
        self.assertEqual(answers([5, 9, 4, 40, 7, 1, 97, 8, 8, 4, 9]), [1, 1, 1, 2])
        self.assertEqual(answers([6, 9, 4, 40, 7]), [1, 1])
        self.assertEqual(answers([7, 9, 4, 20, 40]), [1, 1])
        self.assertEqual(answers([9, 9, 4, 10, 9, 10, 9]), [1, 1, 1, 0, 1, -5])

    def test_it_gives_back_a_list_of_whole_numbers(self):
        given = answers(joined(TOLD + REFUSED))
        self.assertIs(type(given), list)
        self.assertEqual({type(number) for number in given}, {int})

    def test_a_refusal_is_its_number_alone_and_changes_nothing(self):
        plain = replies(*TOLD)
        for refused in REFUSED:
            for place in range(3, len(TOLD) + 1):
                given = replies(*TOLD[:place], refused, *TOLD[place:])
                if given[place] < 0:
                    with self.subTest(refused=refused, place=place):
                        self.assertEqual(given[:place] + given[place + 1:], plain)
        self.assertEqual(replies(*TOLD, *REFUSED)[len(TOLD):],
                         [-1003, -1, -3, -3, -4, -4, -3, -5, -4, -1, -3, -3, -5, -7, -6, -7, -7, -5])

    def test_refusals_behind_lists_leave_the_next_calls_in_place(self):
        self.assertEqual(replies(schedule(-1, "x" * 2000), lands(*[7] * 2000), charge(0, name="x" * 50), closing(1)),
                         [-3, -4, -3, 1])

    def test_numbers_in_lists_are_not_taken_for_calls(self):
        self.assertEqual(replies(lands(3, 1, 1), charge(1, name=[9, 2, 1]), schedule(1, [3, 1]), closing(1)),
                         [0, -4, -1000, 1])

    def test_what_is_handed_in_stays_as_it_was(self):
        handed = joined(TOLD + REFUSED)
        copy = list(handed)
        answers(handed)
        self.assertEqual(handed, copy)

    def test_nothing_is_kept_from_one_time_to_the_next(self):
        handed = joined(TOLD)
        first = answers(handed)
        self.assertEqual(answers(handed), first)
        self.assertEqual(answers(closing(7)), [1, 1])
        self.assertEqual(answers(undo(1)), [1, -5])
        self.assertEqual(answers(handed), first)

    def test_what_is_given_back_is_new_each_time(self):
        first = answers(closing(1))
        first.append(5)
        self.assertEqual(answers(closing(1)), [1, 1])

    def test_400_calls(self):
        calls = [closing(1), undo(1)] * 200
        self.assertEqual(replies(*calls), [1, 0] * 200)


if __name__ == "__main__":
    unittest.main()
