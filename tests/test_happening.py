"""Events: their order, bounces, refunds, and what undoing leaves."""

import itertools
import unittest

from tests.calls import (account, asked, bounce, charge, charged, closing, deposit, each, events, land, lands, order,
                         owed, owner, opened, pay, refund, schedule, totals, undo)

FEES = schedule(0, "fee a 10 late 50\nfee s 6 shared")


class TheirOrder(unittest.TestCase):
    def test_sorts_of_one_day_whatever_their_numbers(self):
        told = [deposit(70, 9), charge(50, 9), pay(40, 9), order(30, 9), closing(10, 9), bounce(60, 9, 70),
                refund(20, 9, 50)]
        for turned in itertools.permutations(told[:5]):
            self.assertEqual(asked(list(turned) + told[5:], events()), [[0, 70, 60, 50, 40, 30, 20, 10]])
        self.assertEqual(asked(told[:5] + [told[6], told[5]], events()), [[0, 70, 60, 50, 40, 30, 20, 10]])

    def test_one_sort_of_one_day_by_numbers(self):
        for sort in (deposit, charge, pay, order, closing):
            for numbers in itertools.permutations((999, 1, 30, 7)):
                self.assertEqual(asked([sort(k, 9) for k in numbers], events()), [[0, 1, 7, 30, 999]])
        told = [deposit(5, 9), deposit(6, 9), charge(7, 9)]
        self.assertEqual(asked(told + [bounce(9, 9, 5), bounce(8, 9, 6), refund(4, 9, 7), refund(3, 9, 7)], events()),
                         [[0, 5, 6, 8, 9, 7, 3, 4]])

    def test_days_ahead_of_sorts_and_numbers(self):
        told = [closing(3, 0), refund(6, 5, 2), deposit(1, 100000), charge(2, 4), pay(4, 3), order(5, 2), deposit(9, 3)]
        told = [told[3]] + told[:3] + told[4:]
        self.assertEqual(asked(told, events()), [[0, 3, 5, 9, 4, 2, 6, 1]])

    def test_none_and_undone(self):
        self.assertEqual(each(events(), pay(1, 5), pay(2, 4), events(), undo(2), events(), undo(1), events()),
                         [[0], [1], [2], [0, 2, 1], [1], [0, 1], [0], [0]])

    def test_a_number_told_anew_has_its_new_place(self):
        self.assertEqual(each(pay(1, 5), pay(2, 4), undo(1), deposit(1, 4), events())[-1], [0, 1, 2])

    def test_a_deposit_comes_ahead_of_a_charge_and_an_order_behind_it(self):
        told = [FEES, order(1, 5, 1, 1), charge(2, 5, 1, 1, "a"), deposit(3, 5, 1, 10)]
        self.assertEqual(asked(told, charged(2, 5), account(1, 5)), [[10, 0, 10, 1], [0, 0]])

    def test_a_payment_comes_ahead_of_an_order(self):
        told = [FEES, order(1, 5, 1, 1), charge(2, 5, 1, 1, "a"), deposit(3, 5, 1, 10), pay(4, 5, 1, 4)]
        self.assertEqual(asked(told, charged(2, 5), account(1, 5), owner(1, 5)), [[10, 0, 10, 1], [0, 4], [0, 0, 0]])

    def test_a_payment_comes_behind_a_charge_that_an_old_order_pays(self):
        told = [FEES, order(1, 4, 1, 1), charge(2, 5, 1, 1, "a"), deposit(3, 5, 1, 10), pay(4, 5, 1, 4)]
        self.assertEqual(asked(told, charged(2, 5), account(1, 5), owner(1, 5)), [[10, 0, 10, 1], [0, 0], [0, 4, 0]])

    def test_charges_of_one_day_one_by_one(self):
        told = [FEES, pay(1, 4, 1, 10), charge(9, 5, 1, 1, "a"), charge(8, 5, 1, 1, "s")]
        self.assertEqual(asked(told, charged(8, 5), charged(9, 5)), [[6, 0, 6, 1], [10, 0, 4, 0]])

    def test_a_refund_comes_behind_a_payment_and_ahead_of_a_closing(self):
        told = [FEES, closing(1, 5), charge(4, 5, 1, 1, "s"), refund(2, 5, 4), pay(3, 5, 1, 6)]
        self.assertEqual(asked(told, charged(4, 5), totals(5)), [[6, 0, 0, 3], [0, 6, 0, 0, 0, 6, 0]])

    def test_a_refund_comes_behind_an_order_and_ahead_of_a_closing(self):
        told = [FEES, closing(1, 5), charge(4, 5, 1, 1, "s"), refund(2, 5, 4), order(3, 5, 1, 1), deposit(5, 1, 1, 6)]
        self.assertEqual(asked(told, charged(4, 5), totals(5)), [[6, 0, 0, 3], [0, 6, 0, 0, 0, 6, 0]])

    def test_a_closing_comes_behind_a_payment(self):
        told = [FEES, closing(1, 5), charge(4, 5, 1, 1, "s"), pay(3, 5, 1, 5)]
        self.assertEqual(asked(told, land(1, 4), land(1, 5)), [[0], [5]])


class Bounces(unittest.TestCase):
    def test_of_a_deposit(self):
        told = [deposit(1, 5, 2, 30), deposit(2, 5, 2, 4), deposit(3, 6, 3, 5), bounce(4, 7, 1)]
        self.assertEqual(asked(told, account(2, 6), account(2, 7), account(3, 7), totals(6), totals(7)),
                         [[0, 34], [0, 4], [0, 5], [0, 39, 39, 0, 0, 0, 0], [0, 9, 9, 0, 0, 0, 0]])

    def test_on_its_deposit_s_day(self):
        told = [deposit(1, 5, 2, 30), bounce(2, 5, 1)]
        self.assertEqual(asked(told, account(2, 4), account(2, 5), totals(5)), [[0, 0], [0, 0], [0] * 7])

    def test_on_its_deposit_s_day_behind_a_payment_out_of_it(self):
        told = [FEES, charge(1, 4, 1, 1, "a"), order(2, 4, 2, 1), deposit(3, 5, 2, 13), bounce(4, 5, 3)]
        self.assertEqual(asked(told, charged(1, 4), charged(1, 5), account(2, 5), totals(5)),
                         [[10, 0, 0, 0], [10, 0, 10, 1], [0, -10], [0, 0, -10, 0, 10, 0, 0]])

    def test_on_its_deposit_s_day_ahead_of_that_day_s_charge(self):
        told = [FEES, charge(1, 5, 1, 1, "a"), order(2, 4, 2, 1), deposit(3, 5, 2, 13), bounce(4, 5, 3)]
        self.assertEqual(asked(told, charged(1, 5), account(2, 5)), [[10, 0, 0, 0], [0, 0]])

    def test_below_0(self):
        told = [FEES, charge(1, 5, 1, 1, "a"), order(2, 4, 2, 1), deposit(3, 5, 2, 13), bounce(4, 9, 3),
                deposit(5, 12, 2, 4)]
        self.assertEqual(asked(told, account(2, 8), account(2, 9), account(2, 12), charged(1, 12), totals(9)),
                         [[0, 3], [0, -10], [0, -6], [10, 0, 10, 1], [0, 0, -10, 0, 10, 0, 0]])


class Refunds(unittest.TestCase):
    def test_of_an_open_charge(self):
        told = [FEES, charge(1, 5, 1, 1, "a"), pay(2, 5, 1, 4), refund(3, 6, 1), pay(4, 7, 1, 6)]
        self.assertEqual(asked(told, charged(1, 6), totals(6), charged(1, 7), totals(7)),
                         [[10, 0, 4, 0], [0, 4, 0, 0, 4, 0, 0], [10, 0, 10, 1], [0, 10, 0, 0, 10, 0, 0]])

    def test_of_a_paid_charge(self):
        told = [FEES, charge(1, 5, 1, 1, "a"), pay(2, 40, 1, 20), refund(3, 41, 1)]
        self.assertEqual(asked(told, charged(1, 40), totals(40), charged(1, 41), totals(41), owner(1, 41)),
                         [[10, 5, 15, 1], [0, 20, 0, 5, 15, 0, 0], [10, 5, 0, 3], [0, 20, 0, 5, 0, 15, 0], [0, 5, 0]])

    def test_of_a_lapsed_charge(self):
        told = [FEES, charge(1, 5, 1, 1, "a"), pay(2, 6, 1, 4), refund(3, 186, 1), refund(4, 187, 1)]
        self.assertEqual(asked(told, charged(1, 186), charged(1, 187), totals(187), owner(1, 187)),
                         [[10, 5, 0, 2], [10, 5, 0, 2], [0, 4, 0, 4, 0, 0, 0], [0, 4, 1]])

    def test_of_a_charge_given_back(self):
        told = [FEES, charge(1, 5, 1, 1, "a"), pay(2, 6, 1, 30), refund(3, 7, 1), refund(4, 7, 1), refund(5, 9, 1)]
        self.assertEqual(asked(told, charged(1, 9), totals(9), opened(1, 9)),
                         [[10, 0, 0, 3], [0, 30, 0, 20, 0, 10, 0], [0]])

    def test_a_second_one_where_the_first_came_too_early(self):
        told = [FEES, charge(1, 5, 1, 1, "a"), refund(3, 6, 1), pay(2, 7, 1, 10), refund(4, 8, 1)]
        self.assertEqual(asked(told, charged(1, 6), charged(1, 7), charged(1, 8)),
                         [[10, 0, 0, 0], [10, 0, 10, 1], [10, 0, 0, 3]])

    def test_what_is_given_back_is_no_credit(self):
        told = [FEES, charge(1, 5, 1, 1, "a"), pay(2, 5, 1, 10), charge(3, 6, 1, 1, "a"), refund(4, 7, 1)]
        self.assertEqual(asked(told, charged(3, 7), owner(1, 7)), [[10, 0, 0, 0], [10, 0, 0]])

    def test_of_what_an_account_paid(self):
        told = [FEES, deposit(1, 1, 1, 10), order(2, 1, 1, 1), charge(3, 5, 1, 1, "a"), refund(4, 6, 3)]
        self.assertEqual(asked(told, account(1, 6), totals(6)), [[0, 0], [0, 10, 0, 0, 0, 10, 0]])


class Undoing(unittest.TestCase):
    TOLD = (FEES, lands(1, 2), deposit(1, 3, 2, 13), order(2, 4, 2, 1), charge(3, 5, 1, 1, "a"), charge(4, 6, 1, 2, "s"),
            pay(5, 7, 1, 5), refund(6, 8, 3), closing(7, 9), bounce(8, 10, 1), order(9, 12, 3, 1))
    ASKING = ([totals(day) for day in range(0, 14)] + [owner(1, day) for day in range(0, 200, 9)]
              + [account(2, day) for day in range(0, 14)] + [land(2, day) for day in range(0, 14)]
              + [opened(1, 20), owed(3, 20), owed(2, 11), events()])

    def test_each_sort(self):
        """What's undone is as if it had never been told."""
        for place in (3, 5, 6, 7, 8, 9, 10):
            call = self.TOLD[place]
            with self.subTest(call=call):
                without = self.TOLD[:place] + self.TOLD[place + 1:]
                plain = asked(without, *self.ASKING)
                self.assertEqual(asked(self.TOLD + (undo(call[1]),), *self.ASKING), plain)
                self.assertNotEqual(asked(self.TOLD, *self.ASKING), plain)

    def test_a_deposit_and_a_charge_behind_what_is_about_them(self):
        for about, k in ((8, 1), (6, 3)):
            with self.subTest(k=k):
                without = [call for call in self.TOLD if call[0] < 3 or call[1] not in (about, k)]
                plain = asked(without, *self.ASKING)
                self.assertEqual(asked(self.TOLD + (undo(about), undo(k)), *self.ASKING), plain)

    def test_told_again(self):
        plain = asked(self.TOLD, *self.ASKING)
        for place in (3, 5, 6, 7, 8, 9, 10):
            call = self.TOLD[place]
            self.assertEqual(asked(self.TOLD + (undo(call[1]), call), *self.ASKING), plain)

    def test_a_refused_undo_changes_nothing(self):
        plain = asked(self.TOLD, *self.ASKING)
        given = each(*self.TOLD, undo(1), undo(3), undo(10), *self.ASKING)[len(self.TOLD):]
        self.assertEqual(given, [[-7], [-7], [-5]] + plain)


if __name__ == "__main__":
    unittest.main()
