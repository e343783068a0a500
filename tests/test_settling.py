"""Settling: which charge is paid when, and from what."""

import unittest

from tests.calls import (account, asked, bounce, charge, charged, closing, deposit, opened, order, owed, owner, pay,
                         refund, schedule, small, totals)

FEES = schedule(0, "fee a 10\nfee b 5\nfee c 0 late 50 shared\nfee d 10 above 4")


class Order(unittest.TestCase):
    def test_by_numbers_on_one_day(self):
        told = [FEES, charge(9, 5, 1, 1, "a"), charge(2, 5, 1, 1, "a"), charge(5, 5, 1, 1, "a"), pay(10, 6, 1, 14)]
        self.assertEqual(asked(told, charged(2, 6), charged(5, 6), charged(9, 6)),
                         [[10, 0, 10, 1], [10, 0, 4, 0], [10, 0, 0, 0]])
        self.assertEqual(asked(told, opened(1, 6), opened(1, 5)),
                         [[2, 5, 6, 35, 185, 9, 10, 35, 185],
                          [3, 2, 10, 35, 185, 5, 10, 35, 185, 9, 10, 35, 185]])

    def test_by_days_ahead_of_numbers(self):
        told = [FEES, charge(1, 7, 1, 1, "a"), charge(2, 6, 1, 1, "a"), charge(3, 5, 1, 1, "a"), pay(4, 8, 1, 14)]
        self.assertEqual(asked(told, charged(3, 8), charged(2, 8), charged(1, 8)),
                         [[10, 0, 10, 1], [10, 0, 4, 0], [10, 0, 0, 0]])
        self.assertEqual(asked(told, opened(1, 8)), [[2, 2, 6, 36, 186, 1, 10, 37, 187]])

    def test_several_owners_on_one_account(self):
        told = [FEES, charge(3, 5, 1, 1, "a"), charge(1, 6, 1, 1, "a"), charge(2, 5, 2, 1, "a"), order(4, 5, 7, 1),
                order(5, 5, 7, 2), deposit(6, 8, 7, 25)]
        self.assertEqual(asked(told, charged(2, 8), charged(3, 8), charged(1, 8), account(7, 8), owed(7, 8)),
                         [[10, 0, 10, 1], [10, 0, 10, 1], [10, 0, 0, 0], [0, 5], [10]])

    def test_an_old_charge_goes_first_even_if_it_stays_open(self):
        told = [FEES, charge(1, 5, 1, 1, "a"), charge(2, 6, 1, 1, "b"), pay(3, 7, 1, 7)]
        self.assertEqual(asked(told, charged(1, 7), charged(2, 7)), [[10, 0, 7, 0], [5, 0, 0, 0]])


class Credit(unittest.TestCase):
    def test_as_far_as_it_goes(self):
        told = [FEES, charge(1, 5, 1, 1, "a"), pay(2, 6, 1, 3), pay(3, 7, 1, 6), pay(4, 8, 1, 1), pay(5, 9, 1, 1)]
        self.assertEqual(asked(told, *[charged(1, day) for day in (5, 6, 7, 8, 9)]),
                         [[10, 0, 0, 0], [10, 0, 3, 0], [10, 0, 9, 0], [10, 0, 10, 1], [10, 0, 10, 1]])
        self.assertEqual(asked(told, owner(1, 7), owner(1, 8), owner(1, 9)), [[1, 0, 0], [0, 0, 0], [0, 1, 0]])

    def test_that_comes_in_advance(self):
        told = [FEES, pay(1, 1, 1, 12), charge(2, 5, 1, 1, "a"), charge(3, 6, 1, 1, "b")]
        self.assertEqual(asked(told, owner(1, 4), owner(1, 5), owner(1, 6), charged(2, 5), charged(3, 6)),
                         [[0, 12, 0], [0, 2, 0], [3, 0, 0], [10, 0, 10, 1], [5, 0, 2, 0]])

    def test_is_the_owner_s_alone(self):
        told = [FEES, charge(1, 5, 1, 1, "a"), pay(2, 5, 2, 50)]
        self.assertEqual(asked(told, charged(1, 6), owner(2, 6)), [[10, 0, 0, 0], [0, 50, 0]])


class Accounts(unittest.TestCase):
    def paid(self, amount, *more):
        """A charge of 10 whose owner's order is with account 1, on which there's so much: what's paid on it, and
        what's on the account then."""
        told = [FEES, deposit(1, 1, 1, amount), order(2, 1, 1, 1), charge(3, 5, 1, 1, "a")] + list(more)
        one, other = asked(told, charged(3, 9), account(1, 9))
        return one[2], one[3], other[1]

    def test_all_the_rest_or_nothing(self):
        self.assertEqual(self.paid(9), (0, 0, 9))
        self.assertEqual(self.paid(10), (10, 1, 0))
        self.assertEqual(self.paid(11), (10, 1, 1))

    def test_credit_first(self):
        self.assertEqual(self.paid(9, pay(4, 4, 1, 4)), (10, 1, 3))
        self.assertEqual(self.paid(6, pay(4, 4, 1, 4)), (10, 1, 0))
        self.assertEqual(self.paid(5, pay(4, 4, 1, 4)), (4, 0, 5))
        self.assertEqual(self.paid(9, pay(4, 6, 1, 1)), (10, 1, 0))
        self.assertEqual(self.paid(1, pay(4, 4, 1, 9)), (10, 1, 0))
        self.assertEqual(self.paid(50, pay(4, 4, 1, 10)), (10, 1, 50))
        self.assertEqual(self.paid(50, pay(4, 4, 1, 99)), (10, 1, 50))

    def test_a_later_deposit(self):
        self.assertEqual(self.paid(9, deposit(4, 9, 1, 1)), (10, 1, 0))
        self.assertEqual(self.paid(9, deposit(4, 10, 1, 1)), (0, 0, 9))
        self.assertEqual(self.paid(9, deposit(4, 9, 2, 1)), (0, 0, 9))

    def test_below_0(self):
        below = [deposit(11, 2, 1, 10), charge(12, 3, 1, 1, "a"), bounce(13, 4, 11)]
        self.assertEqual(self.paid(5, *below), (0, 0, -5))
        self.assertEqual(self.paid(5, *below, deposit(14, 9, 1, 14)), (0, 0, 9))
        self.assertEqual(self.paid(5, *below, deposit(14, 9, 1, 15)), (10, 1, 0))

    def test_below_0_nothing_that_rests_is_paid_even_if_it_is_little(self):
        told = [FEES, deposit(1, 1, 1, 10), order(2, 1, 1, 1), charge(3, 2, 1, 1, "a"), bounce(4, 3, 1),
                charge(5, 4, 1, 1, "b"), charge(6, 4, 1, 1, "c")]
        self.assertEqual(asked(told, charged(5, 9), charged(6, 9), account(1, 9)), [[5, 0, 0, 0], [0, 0, 0, 1], [0, -10]])

    def test_a_lesser_charge_behind_one_that_is_too_great(self):
        self.assertEqual(self.paid(9, charge(4, 6, 1, 1, "b")), (0, 0, 4))

    def test_without_an_order(self):
        told = [FEES, deposit(1, 1, 1, 100), charge(2, 5, 1, 1, "a"), order(3, 5, 1, 2)]
        self.assertEqual(asked(told, charged(2, 9), account(1, 9)), [[10, 0, 0, 0], [0, 100]])


class Orders(unittest.TestCase):
    TOLD = (FEES, deposit(1, 1, 1, 100), deposit(2, 1, 2, 100))

    def left(self, *told):
        """What's on the accounts 1 and 2 on day 9, and how the charge 3 stands."""
        one, two, three = asked(self.TOLD + told, account(1, 9), account(2, 9), charged(3, 9))
        return one[1], two[1], three[3]

    def test_the_newest_counts(self):
        self.assertEqual(self.left(order(4, 2, 1, 1), order(5, 3, 2, 1), charge(3, 5, 1, 1, "a")), (100, 90, 1))
        self.assertEqual(self.left(order(5, 2, 1, 1), order(4, 3, 2, 1), charge(3, 5, 1, 1, "a")), (100, 90, 1))
        self.assertEqual(self.left(order(4, 3, 2, 1), order(5, 2, 1, 1), charge(3, 5, 1, 1, "a")), (100, 90, 1))

    def test_of_one_day_the_greater_number_counts(self):
        self.assertEqual(self.left(order(7, 2, 2, 1), order(4, 2, 1, 1), charge(3, 5, 1, 1, "a")), (100, 90, 1))
        self.assertEqual(self.left(order(4, 2, 2, 1), order(7, 2, 1, 1), charge(3, 5, 1, 1, "a")), (90, 100, 1))

    def test_it_is_settled_between_two_orders_of_one_day(self):
        self.assertEqual(self.left(order(4, 5, 2, 1), order(7, 5, 1, 1), charge(3, 5, 1, 1, "a")), (100, 90, 1))

    def test_the_account_0(self):
        self.assertEqual(self.left(order(4, 2, 1, 1), order(5, 3, 0, 1), charge(3, 5, 1, 1, "a")), (100, 100, 0))
        self.assertEqual(self.left(order(4, 2, 0, 1), charge(3, 5, 1, 1, "a")), (100, 100, 0))
        self.assertEqual(self.left(order(4, 2, 0, 1), order(5, 6, 1, 1), charge(3, 5, 1, 1, "a")), (90, 100, 1))

    def test_an_order_behind_the_charge(self):
        self.assertEqual(self.left(charge(3, 5, 1, 1, "a"), order(4, 9, 1, 1)), (90, 100, 1))
        self.assertEqual(self.left(charge(3, 5, 1, 1, "a"), order(4, 10, 1, 1)), (100, 100, 0))

    def test_an_order_that_comes_when_the_old_one_has_paid(self):
        self.assertEqual(self.left(order(4, 2, 1, 1), charge(3, 5, 1, 1, "a"), order(5, 6, 2, 1)), (90, 100, 1))

    def test_owed_goes_by_the_order_of_the_evening(self):
        told = (FEES, charge(3, 5, 1, 1, "a"), order(4, 6, 1, 1), order(5, 7, 2, 1), order(6, 8, 0, 1))
        given = asked(told, *[owed(number, day) for day in (5, 6, 7, 8) for number in (1, 2)])
        self.assertEqual(given, [[0], [0], [10], [0], [0], [10], [0], [0]])


class Nothing(unittest.TestCase):
    def test_a_base_of_0_is_paid_at_once(self):
        told = [FEES, charge(1, 5, 1, 7, "c"), charge(2, 5, 1, 0, "a"), charge(3, 5, 1, 4, "d"), charge(4, 5, 1, 3, "d")]
        self.assertEqual(asked(told, *[charged(k, day) for k in (1, 2, 3, 4) for day in (5, 36, 186)]),
                         [[0, 0, 0, 1]] * 12)
        self.assertEqual(asked(told, opened(1, 5), owner(1, 5), totals(5)), [[0], [0, 0, 0], [0] * 7])

    def test_no_schedule_in_force(self):
        told = [schedule(6, "fee a 10 late 50 shared"), charge(1, 5, 1, 1, "a"), charge(2, 6, 1, 1, "a")]
        self.assertEqual(asked(told, charged(1, 5), charged(1, 36), charged(1, 186), charged(2, 6)),
                         [[0, 0, 0, 1]] * 3 + [[10, 0, 0, 0]])
        self.assertEqual(asked([charge(1, 5, 1, 1, "a")], charged(1, 5)), [[0, 0, 0, 1]])

    def test_no_such_fee(self):
        told = [FEES, charge(1, 5, 1, 1, "aa"), charge(2, 5, 1, 1, "x"), small(1, 1), closing(3, 5)]
        self.assertEqual(asked(told, charged(1, 5), charged(2, 300)), [[0, 0, 0, 1]] * 2)

    def test_credit_and_account_are_left_alone(self):
        told = [FEES, pay(1, 1, 1, 5), deposit(2, 1, 1, 5), order(3, 1, 1, 1), charge(4, 5, 1, 1, "x")]
        self.assertEqual(asked(told, owner(1, 5), account(1, 5)), [[0, 5, 0], [0, 5]])

    def test_it_can_be_given_back(self):
        told = [FEES, charge(1, 5, 1, 1, "x"), refund(2, 6, 1)]
        self.assertEqual(asked(told, charged(1, 5), charged(1, 6), totals(6)), [[0, 0, 0, 1], [0, 0, 0, 3], [0] * 7])

    def test_small_at_100(self):
        told = [schedule(0, "fee a 10 late 100 small 100"), small(1, 1), charge(1, 5, 1, 1, "a")]
        self.assertEqual(asked(told, charged(1, 5), charged(1, 186)), [[0, 0, 0, 1]] * 2)


class Great(unittest.TestCase):
    def test_great_numbers_add_up(self):
        told = [schedule(0, "fee a 999999999 late 100"), charge(99, 0, 40, 10000, "a"), order(98, 0, 20, 40)]
        told += [deposit(k, 40, 20, 1000000000) for k in range(1, 30)]
        told += [pay(k, 41, 40, 1000000000) for k in range(31, 59)]
        self.assertEqual(asked(told, account(20, 41), charged(99, 41), owner(40, 41), owed(20, 41), totals(181)),
                         [[0, 29000000000], [9999999990000, 9999999990000, 28000000000, 0],
                          [19999999980000 - 28000000000, 0, 0], [19999999980000 - 28000000000],
                          [0, 57000000000, 29000000000, 28000000000, 0, 0, 0]])


if __name__ == "__main__":
    unittest.main()
