"""Calls 3 to 10: events, their refusals in order, and undoing."""

import unittest

from tests.calls import (FAR, LEAST, MOST, bounce, charge, closing, deposit, last, order, pay, refund, replies,
                         schedule, undo)

# Each new event that isn't about another, by its number and day.
FREE = (deposit, charge, pay, order, closing)


def closings(count, first=101):
    """So many closings, one number behind another."""
    return [closing(first + i) for i in range(count)]


class NewEvents(unittest.TestCase):
    def test_answers_how_many_events_there_are(self):
        self.assertEqual(
            replies(deposit(1), bounce(2, 10, 1), charge(3), pay(4), order(5), refund(6, 10, 3), closing(7)),
            [1, 2, 3, 4, 5, 6, 7])

    def test_in_any_order_of_days_and_numbers(self):
        self.assertEqual(replies(closing(9, 50), pay(999, 3), deposit(1, 100000), charge(500, 0)), [1, 2, 3, 4])

    def test_a_number_that_is_taken_by_whichever_sort(self):
        for one in FREE:
            for other in FREE:
                with self.subTest(one=one.__name__, other=other.__name__):
                    self.assertEqual(replies(one(7), other(7), other(8)), [1, -6, 2])

    def test_bounces_and_refunds_take_numbers_and_are_refused_taken_ones(self):
        told = [deposit(1), charge(2), bounce(3, 10, 1), refund(4, 10, 2)]
        self.assertEqual(last(*told, pay(3)), -6)
        self.assertEqual(last(*told, pay(4)), -6)
        self.assertEqual(last(*told, refund(3, 10, 2)), -6)
        self.assertEqual(last(deposit(1), bounce(1, 10, 1)), -6)
        self.assertEqual(last(charge(1), refund(1, 10, 1)), -6)

    def test_60_and_61_events(self):
        base = [deposit(1), deposit(2), charge(3)] + closings(56)
        pairs = ((deposit(4), deposit(5)), (bounce(4, 10, 1), bounce(5, 10, 2)), (charge(4), charge(5)),
                 (pay(4), pay(5)), (order(4), order(5)), (refund(4, 10, 3), refund(5, 10, 3)), (closing(4), closing(5)))
        for one, another in pairs:
            with self.subTest(call=one[0]):
                self.assertEqual(replies(*base, one, another)[58:], [59, 60, -9])

    def test_a_taken_number_comes_before_too_many(self):
        full = [deposit(1), charge(2)] + closings(58)
        for event in (deposit(1), bounce(1, 10, 1), charge(1), pay(1), order(1), refund(1, 10, 2), closing(1)):
            with self.subTest(call=event[0]):
                self.assertEqual(last(*full, event), -6)
        self.assertEqual(last(*full, closing(3)), -9)

    def test_schedules_are_no_events(self):
        self.assertEqual(replies(schedule(5, "fee filing 1"), deposit(1)), [1, 1])

    def test_a_charge_needs_no_schedule(self):
        self.assertEqual(replies(charge(1, name="unknown"), schedule(0, "fee other 1")), [1, 1])


class Bounces(unittest.TestCase):
    def test_of_no_deposit(self):
        self.assertEqual(last(bounce(1, 10, 2)), -5)
        self.assertEqual(last(bounce(1, 10, 1)), -5)
        self.assertEqual(last(deposit(1), bounce(3, 10, 2)), -5)
        for other in (charge, pay, order, closing):
            with self.subTest(other=other.__name__):
                self.assertEqual(last(other(1), bounce(2, 10, 1)), -5)
        self.assertEqual(last(deposit(1), bounce(2, 10, 1), bounce(3, 10, 2)), -5)
        self.assertEqual(last(charge(1), refund(2, 10, 1), bounce(3, 10, 2)), -5)

    def test_any_number_may_be_told(self):
        for about in FAR + (0, 1000):
            with self.subTest(about=about):
                self.assertEqual(last(deposit(1), bounce(2, 10, about)), -5)

    def test_before_on_and_behind_the_deposit_s_day(self):
        self.assertEqual(last(deposit(1, 10), bounce(2, 9, 1)), -7)
        self.assertEqual(last(deposit(1, 10), bounce(2, 0, 1)), -7)
        self.assertEqual(last(deposit(1, 10), bounce(2, 10, 1)), 2)
        self.assertEqual(last(deposit(1, 10), bounce(2, 11, 1)), 2)
        self.assertEqual(last(deposit(1, 100000), bounce(2, 100000, 1)), 2)

    def test_a_second_bounce(self):
        self.assertEqual(replies(deposit(1), bounce(2, 10, 1), bounce(3, 11, 1)), [1, 2, -8])
        self.assertEqual(replies(deposit(1), deposit(2), bounce(3, 10, 1), bounce(4, 10, 2)), [1, 2, 3, 4])

    def test_another_one_when_the_first_is_undone(self):
        self.assertEqual(replies(deposit(1), bounce(2, 10, 1), undo(2), bounce(3, 10, 1)), [1, 2, 1, 2])

    def test_a_refused_bounce_is_no_bounce(self):
        self.assertEqual(replies(deposit(1), bounce(2, 9, 1), bounce(1, 10, 1), bounce(2, 10, 1)), [1, -7, -6, 2])

    def test_of_several_refusals_the_first_is_answered(self):
        told = [deposit(1, 10), bounce(2, 10, 1)]
        full = told + closings(58)
        self.assertEqual(last(*told, bounce(0, 9, 77)), -3)
        self.assertEqual(last(*told, bounce(2, 9, 77)), -5)
        self.assertEqual(last(*told, bounce(2, 9, 1)), -7)
        self.assertEqual(last(*told, bounce(2, 10, 1)), -8)
        self.assertEqual(last(*full, bounce(2, 9, 77)), -5)
        self.assertEqual(last(*full, bounce(2, 9, 1)), -7)
        self.assertEqual(last(*full, bounce(3, 10, 1)), -8)


class Charges(unittest.TestCase):
    def test_names(self):
        for name in ("a", "z", "abcdefghijkl", "fees", "lat"):
            with self.subTest(name=name):
                self.assertEqual(last(charge(1, name=name)), 1)

    def test_no_names(self):
        for name in ("", "abcdefghijklm", "fee", "above", "late", "small", "shared", "A", "aB", "a b", " a", "a ",
                     "a\n", "1", "a1", "`", "{", "\x00", "\xff", "a" * 2000):
            with self.subTest(name=name):
                self.assertEqual(last(charge(1, name=name)), -4)

    def test_names_with_numbers_that_are_no_bytes(self):
        for number in FAR + (256,):
            with self.subTest(number=number):
                self.assertEqual(last(charge(1, name=[number])), -1)
                self.assertEqual(last(charge(1, name=[97, number])), -1)
                self.assertEqual(last(charge(1, name=[32] * 1999 + [number])), -1)
        self.assertEqual(last(charge(1, name=[0])), -4)
        self.assertEqual(last(charge(1, name=[255])), -4)

    def test_more_than_2000_bytes(self):
        self.assertEqual(last(charge(1, name=[97] * 2000)), -4)
        self.assertEqual(last(charge(1, name=[97] * 2001)), -1)

    def test_of_several_refusals_the_first_is_answered(self):
        full = closings(60)
        self.assertEqual(last(*full, charge(101, units=-1, name=[256])), -3)
        self.assertEqual(last(*full, charge(101, units=10001, name="")), -3)
        self.assertEqual(last(*full, charge(101, name=[32, 256])), -1)
        self.assertEqual(last(*full, charge(101, name="fee")), -4)
        self.assertEqual(last(*full, charge(1, name="fee")), -4)
        self.assertEqual(last(*full, charge(101)), -6)
        self.assertEqual(last(*full, charge(1)), -9)


class Refunds(unittest.TestCase):
    def test_of_no_charge(self):
        self.assertEqual(last(refund(1, 10, 2)), -5)
        self.assertEqual(last(charge(1), refund(3, 10, 2)), -5)
        for other in (deposit, pay, order, closing):
            with self.subTest(other=other.__name__):
                self.assertEqual(last(other(1), refund(2, 10, 1)), -5)
        self.assertEqual(last(charge(1), refund(2, 10, 1), refund(3, 10, 2)), -5)
        self.assertEqual(last(deposit(1), bounce(2, 10, 1), refund(3, 10, 2)), -5)

    def test_any_number_may_be_told(self):
        for about in FAR + (0, 1000):
            with self.subTest(about=about):
                self.assertEqual(last(charge(1), refund(2, 10, about)), -5)

    def test_before_on_and_behind_the_charge_s_day(self):
        self.assertEqual(last(charge(1, 10), refund(2, 9, 1)), -7)
        self.assertEqual(last(charge(1, 10), refund(2, 10, 1)), 2)
        self.assertEqual(last(charge(1, 10), refund(2, 11, 1)), 2)
        self.assertEqual(last(charge(1, 100000), refund(2, 100000, 1)), 2)

    def test_a_second_refund_is_no_fault(self):
        self.assertEqual(replies(charge(1), refund(2, 10, 1), refund(3, 10, 1)), [1, 2, 3])

    def test_of_several_refusals_the_first_is_answered(self):
        full = [charge(1, 10)] + closings(59)
        self.assertEqual(last(*full, refund(1, 100001, 77)), -3)
        self.assertEqual(last(*full, refund(1, 9, 77)), -5)
        self.assertEqual(last(*full, refund(1, 9, 1)), -7)
        self.assertEqual(last(*full, refund(1, 10, 1)), -6)
        self.assertEqual(last(*full, refund(2, 10, 1)), -9)


class Undoing(unittest.TestCase):
    def test_each_sort_of_event(self):
        told = [deposit(1), charge(2), pay(3), order(4), closing(5), bounce(6, 10, 1), refund(7, 10, 2)]
        for k in (3, 4, 5, 6, 7):
            with self.subTest(k=k):
                self.assertEqual(replies(*told, undo(k), undo(k), closing(k))[7:], [6, -5, 7])
        self.assertEqual(replies(deposit(1), undo(1), undo(1)), [1, 0, -5])
        self.assertEqual(replies(charge(1), undo(1), undo(1)), [1, 0, -5])

    def test_of_no_event_any_number_may_be_told(self):
        for k in FAR + (0, 2, 1000):
            with self.subTest(k=k):
                self.assertEqual(replies(closing(1), undo(k), closing(2)), [1, -5, 2])
        self.assertEqual(last(undo(1)), -5)
        self.assertEqual(last(undo(0)), -5)

    def test_what_a_bounce_is_about(self):
        self.assertEqual(replies(deposit(1), bounce(2, 10, 1), undo(1), undo(2), undo(1)), [1, 2, -7, 1, 0])

    def test_what_a_refund_is_about(self):
        self.assertEqual(replies(charge(1), refund(2, 10, 1), undo(1), undo(2), undo(1)), [1, 2, -7, 1, 0])

    def test_what_two_refunds_are_about(self):
        told = [charge(1), refund(2, 10, 1), refund(3, 10, 1)]
        self.assertEqual(replies(*told, undo(2), undo(1), undo(3), undo(1))[3:], [2, -7, 1, 0])

    def test_others_are_not_held(self):
        told = [deposit(1), deposit(2), charge(3), charge(4), bounce(5, 10, 1), refund(6, 10, 3)]
        self.assertEqual(replies(*told, undo(2), undo(4))[6:], [5, 4])

    def test_a_number_is_free_again(self):
        self.assertEqual(replies(deposit(1), undo(1), charge(1), refund(2, 10, 1)), [1, 0, 1, 2])
        self.assertEqual(replies(deposit(1), undo(1), charge(1), bounce(2, 10, 1)), [1, 0, 1, -5])
        self.assertEqual(replies(deposit(1, 10), undo(1), deposit(1, 5), bounce(2, 7, 1)), [1, 0, 1, 2])

    def test_it_makes_room(self):
        self.assertEqual(replies(*closings(60), closing(1), undo(101), closing(1), closing(2))[60:], [-9, 59, 60, -9])


class Ranges(unittest.TestCase):
    def check(self, call, at, least, most):
        """The call stands with the ends of the range at this place, and is refused one beyond them and far off."""
        before = [deposit(501, 0), charge(502, 0)]
        for number in (least, most):
            with self.subTest(call=call, at=at, number=number):
                self.assertEqual(last(*before, call[:at] + [number] + call[at + 1:]), 3)
        for number in (least - 1, most + 1, LEAST, LEAST + 1, MOST - 1, MOST):
            with self.subTest(call=call, at=at, number=number):
                self.assertEqual(replies(*before, call[:at] + [number] + call[at + 1:], closing(503))[2:], [-3, 3])

    def test_numbers_and_days_of_events(self):
        for call in (deposit(1), bounce(1, 10, 501), charge(1), pay(1), order(1), refund(1, 10, 502), closing(1)):
            self.check(call, 1, 1, 999)
            self.check(call, 2, 0, 100000)

    def test_deposits(self):
        self.check(deposit(1), 3, 1, 20)
        self.check(deposit(1), 4, 1, 1000000000)

    def test_charges(self):
        self.check(charge(1), 3, 1, 40)
        self.check(charge(1), 4, 0, 10000)

    def test_payments(self):
        self.check(pay(1), 3, 1, 40)
        self.check(pay(1), 4, 1, 1000000000)

    def test_orders(self):
        self.check(order(1), 3, 0, 20)
        self.check(order(1), 4, 1, 40)

    def test_a_range_comes_before_all_else(self):
        self.assertEqual(last(closing(1), deposit(1, account=0)), -3)
        self.assertEqual(last(closing(1), pay(1, amount=0)), -3)
        self.assertEqual(last(closing(1), order(1, account=21)), -3)
        self.assertEqual(last(closing(1), closing(1, 100001)), -3)
        self.assertEqual(last(*closings(60), pay(1, owner=41)), -3)
        self.assertEqual(last(bounce(1, 100001, 5)), -3)
        self.assertEqual(last(refund(1000, 1, 5)), -3)


if __name__ == "__main__":
    unittest.main()
