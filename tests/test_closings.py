"""Closings: what's handed to the lands."""

import unittest

from tests.calls import (asked, charge, charged, closing, deposit, each, land, lands, order, pay, refund, schedule,
                         totals)

FEES = schedule(0, "fee s 1 shared\nfee a 1\nfee t 10 late 50 shared")


def shares(pot, *weights):
    """What the lands of these weights get of a pot."""
    told = [FEES, lands(*weights), charge(1, 5, 1, pot, "s"), pay(2, 5, 1, max(pot, 1)), closing(3, 5)]
    return [answer[0] for answer in asked(told, *[land(number, 5) for number in range(1, len(weights) + 1)])]


def handed(told, count, *days):
    """What so many lands have on the evenings of these days."""
    given = asked(told, *[land(number, day) for day in days for number in range(1, count + 1)])
    return [[answer[0] for answer in given[at:at + count]] for at in range(0, len(given), count)]


class Shares(unittest.TestCase):
    def test_one_land(self):
        self.assertEqual(shares(7, 1), [7])
        self.assertEqual(shares(7, 1000), [7])

    def test_one_land_of_weight_1_if_none_is_told(self):
        self.assertEqual(each(FEES, charge(1, 5, 1, 9, "s"), pay(2, 5, 1, 4), closing(3, 5), land(1, 5))[-1], [4])

    def test_pots_that_the_weights_divide(self):
        self.assertEqual(shares(12, 1, 1, 1), [4, 4, 4])
        self.assertEqual(shares(12, 3, 2, 1), [6, 4, 2])

    def test_pots_that_they_do_not_divide(self):
        self.assertEqual(shares(7, 5, 3, 2), [4, 2, 1])
        self.assertEqual(shares(5, 1, 2, 3), [1, 2, 2])
        self.assertEqual(shares(1, 1, 2, 3), [0, 0, 1])
        self.assertEqual(shares(2, 1, 2, 3), [0, 1, 1])

    def test_equal_rests(self):
        self.assertEqual(shares(10, 1, 1, 1), [4, 3, 3])
        self.assertEqual(shares(11, 1, 1, 1), [4, 4, 3])
        self.assertEqual(shares(1, 7, 7), [1, 0])
        self.assertEqual(shares(3, 2, 1, 2, 1), [1, 1, 1, 0])

    def test_weight_0(self):
        self.assertEqual(shares(3, 0, 1, 0, 1), [0, 2, 0, 1])
        self.assertEqual(shares(9, 0, 0, 1), [0, 0, 9])
        self.assertEqual(shares(1, 0, 1, 1, 0), [0, 1, 0, 0])

    def test_ten_lands(self):
        self.assertEqual(shares(7, *[1] * 10), [1] * 7 + [0] * 3)
        self.assertEqual(shares(100, *range(1, 11)), [2, 4, 5, 7, 9, 11, 13, 15, 16, 18])
        self.assertEqual(shares(9, *[1000] * 10), [1] * 9 + [0])

    def test_they_add_up(self):
        for pot in range(0, 60):
            for weights in ((1, 1, 1), (5, 3, 2), (0, 7, 999, 1000), (3, 0, 3, 1, 1, 4, 9, 2, 6, 5)):
                self.assertEqual(sum(shares(pot, *weights)), pot)

    def test_a_great_pot(self):
        told = [schedule(0, "fee s 999999999 shared"), lands(999, 1000, 1), charge(1, 5, 1, 1, "s"),
                pay(2, 5, 1, 999999999), closing(3, 5)]
        self.assertEqual(handed(told, 3, 5), [[499500000, 499999999, 500000]])


class Pots(unittest.TestCase):
    def test_nothing_shared(self):
        told = [FEES, charge(1, 5, 1, 9, "a"), pay(2, 5, 1, 9), closing(3, 5), closing(4, 6)]
        self.assertEqual(asked(told, land(1, 6), totals(6)), [[0], [0, 9, 0, 0, 9, 0, 0]])
        self.assertEqual(asked([closing(1, 5)], land(1, 5), totals(5)), [[0], [0] * 7])

    def test_nothing_paid(self):
        self.assertEqual(asked([FEES, charge(1, 5, 1, 9, "s"), closing(2, 5)], land(1, 5)), [[0]])

    def test_what_is_paid_on_open_charges_counts(self):
        told = [FEES, charge(1, 5, 1, 9, "s"), pay(2, 5, 1, 4), closing(3, 5), pay(4, 6, 1, 50), closing(5, 7)]
        self.assertEqual(asked(told, land(1, 5), land(1, 6), land(1, 7), totals(7)),
                         [[4], [4], [9], [0, 54, 0, 45, 0, 0, 9]])

    def test_several_charges_and_surcharges_count(self):
        told = [FEES, charge(1, 5, 1, 9, "s"), charge(2, 5, 2, 2, "t"), charge(3, 5, 3, 7, "a"), pay(4, 6, 1, 9),
                pay(5, 40, 2, 30), pay(6, 6, 3, 7), closing(7, 41)]
        self.assertEqual(asked(told, land(1, 41), totals(41)), [[39], [0, 46, 0, 0, 7, 0, 39]])

    def test_what_was_handed_before_is_not_handed_again(self):
        told = [FEES, lands(1, 1), charge(1, 5, 1, 9, "s"), pay(2, 5, 1, 9), closing(3, 5), closing(4, 5), closing(5, 8)]
        self.assertEqual(handed(told, 2, 4, 5, 8), [[0, 0], [5, 4], [5, 4]])

    def test_each_closing_by_itself(self):
        told = [FEES, lands(1, 1), charge(1, 5, 1, 9, "s"), pay(2, 5, 1, 1), closing(3, 5), pay(4, 6, 1, 1),
                closing(5, 6), pay(6, 7, 1, 2), closing(7, 7)]
        self.assertEqual(handed(told, 2, 5, 6, 7), [[1, 0], [2, 0], [3, 1]])

    def test_below_0_behind_a_refund(self):
        told = [FEES, charge(1, 5, 1, 9, "s"), pay(2, 5, 1, 9), closing(3, 5), refund(4, 6, 1), closing(5, 6),
                charge(6, 7, 1, 12, "s"), pay(7, 7, 1, 8), closing(8, 7), pay(9, 8, 1, 1), closing(10, 8),
                pay(11, 9, 1, 3), closing(12, 9)]
        self.assertEqual(handed(told, 1, 5, 6, 7, 8, 9), [[9], [9], [9], [9], [12]])
        self.assertEqual(asked(told, totals(6), totals(7), totals(9)),
                         [[0, 9, 0, 0, -9, 9, 9], [0, 17, 0, 0, -1, 9, 9], [0, 21, 0, 0, 0, 9, 12]])

    def test_below_0_behind_lapsing(self):
        told = [FEES, charge(1, 5, 1, 1, "t"), pay(2, 5, 1, 9), closing(3, 5), closing(4, 186)]
        self.assertEqual(asked(told, charged(1, 185), land(1, 185), land(1, 186), totals(186)),
                         [[10, 5, 9, 0], [9], [9], [0, 9, 0, 9, -9, 0, 9]])

    def test_shared_by_the_schedule_of_the_charge_s_day(self):
        told = [schedule(0, "fee x 5 shared"), schedule(6, "fee x 5"), charge(1, 5, 1, 1, "x"), charge(2, 6, 1, 1, "x"),
                pay(3, 7, 1, 10), closing(4, 7)]
        self.assertEqual(asked(told, land(1, 7), totals(7)), [[5], [0, 10, 0, 0, 5, 0, 5]])

    def test_paid_from_an_account(self):
        told = [FEES, deposit(1, 1, 4, 9), order(2, 1, 4, 1), charge(3, 5, 1, 9, "s"), closing(4, 5)]
        self.assertEqual(asked(told, land(1, 5), totals(5)), [[9], [0, 9, 0, 0, 0, 0, 9]])


class ToldAnew(unittest.TestCase):
    TOLD = (FEES, charge(1, 5, 1, 30, "s"), pay(2, 5, 1, 10), closing(3, 5), pay(4, 6, 1, 11), closing(5, 6))

    def test_weights_told_behind_closings(self):
        given = each(*self.TOLD, land(1, 6), lands(1, 1), land(1, 5), land(2, 5), land(1, 6), land(2, 6),
                     lands(0, 1, 2), land(1, 6), land(2, 6), land(3, 6), lands(1), land(1, 5), land(1, 6), land(2, 6))
        self.assertEqual(given[6:], [[21], [0], [5], [5], [11], [10], [0], [0], [3 + 4], [7 + 7], [0], [10], [21],
                                     [-3]])

    def test_the_same_as_told_ahead(self):
        for weights in ((1,), (1, 1), (3, 2, 1), (0, 1, 0, 5), (1,) * 10):
            ahead = handed((lands(*weights),) + self.TOLD, len(weights), 4, 5, 6, 99)
            behind = handed(self.TOLD + (lands(7, 7, 7), lands(*weights)), len(weights), 4, 5, 6, 99)
            self.assertEqual(ahead, behind)

    def test_refused_weights_change_nothing(self):
        given = each(lands(1, 3), *self.TOLD, lands(0, 0), lands(1001, 1), land(1, 6), land(2, 6))
        self.assertEqual(given[7:], [[-4], [-4], [3 + 3], [7 + 8]])


if __name__ == "__main__":
    unittest.main()
