"""Time: surcharges, lapsing, and evenings on which nothing happens."""

import unittest

from tests.calls import (account, asked, charge, charged, deposit, opened, order, owner, pay, refund, schedule, small,
                         totals)

FEES = schedule(0, "fee a 10 late 33\nfee b 100\nfee c 10 late 0\nfee d 3 late 100")


class Surcharges(unittest.TestCase):
    def surcharge(self, fee, units=1, *told):
        """The surcharge of a charge whose fee has these words behind its name, on the 31st day; none on the 30th."""
        told = [schedule(0, "fee a " + fee), charge(1, 7, 1, units, "a")] + list(told)
        before, behind, later = asked(told, charged(1, 37), charged(1, 38), charged(1, 187))
        self.assertEqual((before[1], behind[1], later[1]), (0, behind[1], behind[1]))
        return behind[1]

    def test_the_30th_and_the_31st_day(self):
        told = [FEES, charge(1, 5, 1, 1, "a")]
        self.assertEqual(asked(told, charged(1, 34), charged(1, 35), charged(1, 36), charged(1, 37), charged(1, 185)),
                         [[10, 0, 0, 0]] * 2 + [[10, 4, 0, 0]] * 3)
        self.assertEqual(asked(told, opened(1, 35), opened(1, 36)), [[1, 1, 10, 35, 185], [1, 1, 14, 35, 185]])

    def test_rounded_up(self):
        self.assertEqual(self.surcharge("10 late 33"), 4)
        self.assertEqual(self.surcharge("100 late 33"), 33)
        self.assertEqual(self.surcharge("1 late 1"), 1)
        self.assertEqual(self.surcharge("101 late 1"), 2)
        self.assertEqual(self.surcharge("99 late 1"), 1)
        self.assertEqual(self.surcharge("3 late 67"), 3)
        self.assertEqual(self.surcharge("7 late 100"), 7)
        self.assertEqual(self.surcharge("999999999 late 1", 10000), 99999999900)
        self.assertEqual(self.surcharge("999999999 late 1"), 10000000)

    def test_none_with_late_0_or_without_late(self):
        self.assertEqual(self.surcharge("10 late 0"), 0)
        self.assertEqual(self.surcharge("10"), 0)
        self.assertEqual(self.surcharge("10 small 50 shared"), 0)

    def test_of_the_base_with_all_that_makes_it(self):
        self.assertEqual(self.surcharge("7 above 2 late 50 small 33", 5), 11)
        self.assertEqual(self.surcharge("7 above 2 late 50 small 33", 5, small(1, 1)), 8)

    def test_of_the_base_and_not_of_the_rest(self):
        self.assertEqual(self.surcharge("10 late 33", 1, pay(2, 8, 1, 9)), 4)

    def test_by_the_schedule_of_the_charge_s_day(self):
        self.assertEqual(self.surcharge("10 late 33", 1, schedule(8, "fee a 90 late 90"), schedule(38, "fee b 1")), 4)

    def test_something_paid_already(self):
        told = [FEES, charge(1, 5, 1, 1, "a"), pay(2, 20, 1, 4)]
        self.assertEqual(asked(told, charged(1, 35), charged(1, 36), opened(1, 36), owner(1, 36)),
                         [[10, 0, 4, 0], [10, 4, 4, 0], [1, 1, 10, 35, 185], [10, 0, 0]])

    def test_paid_on_the_30th_day(self):
        told = [FEES, charge(1, 5, 1, 1, "a"), pay(2, 35, 1, 10)]
        self.assertEqual(asked(told, charged(1, 34), charged(1, 35), charged(1, 36), charged(1, 300)),
                         [[10, 0, 0, 0]] + [[10, 0, 10, 1]] * 3)

    def test_paid_on_the_31st_day_is_too_late(self):
        told = [FEES, charge(1, 5, 1, 1, "a")]
        self.assertEqual(asked(told + [pay(2, 36, 1, 10)], charged(1, 36), owner(1, 36)), [[10, 4, 10, 0], [4, 0, 0]])
        self.assertEqual(asked(told + [pay(2, 36, 1, 15)], charged(1, 36), owner(1, 36)), [[10, 4, 14, 1], [0, 1, 0]])
        self.assertEqual(asked(told + [order(2, 5, 1, 1), deposit(3, 36, 1, 13), deposit(4, 37, 1, 1)],
                               charged(1, 36), account(1, 36), charged(1, 37), account(1, 37)),
                         [[10, 4, 0, 0], [0, 13], [10, 4, 14, 1], [0, 0]])

    def test_given_back_before(self):
        told = [FEES, charge(1, 5, 1, 1, "a"), pay(2, 6, 1, 10), refund(3, 7, 1)]
        self.assertEqual(asked(told, charged(1, 35), charged(1, 36), charged(1, 186)), [[10, 0, 0, 3]] * 3)


class Lapsing(unittest.TestCase):
    def test_the_180th_and_the_181st_day(self):
        for name, surcharge, base in (("a", 4, 10), ("b", 0, 100), ("c", 0, 10), ("d", 3, 3)):
            with self.subTest(name=name):
                told = [FEES, charge(1, 5, 1, 1, name)]
                self.assertEqual(asked(told, charged(1, 184), charged(1, 185), charged(1, 186), charged(1, 100000)),
                                 [[base, surcharge, 0, 0]] * 2 + [[base, surcharge, 0, 2]] * 2)
                self.assertEqual(asked(told, owner(1, 185), owner(1, 186), opened(1, 185), opened(1, 186)),
                                 [[base + surcharge, 0, 0], [0, 0, 1], [1, 1, base + surcharge, 35, 185], [0]])

    def test_paid_on_the_180th_day(self):
        told = [FEES, charge(1, 5, 1, 1, "a"), pay(2, 100, 1, 4), pay(3, 185, 1, 10)]
        self.assertEqual(asked(told, charged(1, 184), charged(1, 185), charged(1, 186), owner(1, 186)),
                         [[10, 4, 4, 0], [10, 4, 14, 1], [10, 4, 14, 1], [0, 0, 0]])

    def test_paid_on_the_181st_day_is_too_late(self):
        told = [FEES, charge(1, 5, 1, 1, "a"), pay(2, 100, 1, 4), pay(3, 186, 1, 10)]
        self.assertEqual(asked(told, charged(1, 185), charged(1, 186), owner(1, 185), owner(1, 186)),
                         [[10, 4, 4, 0], [10, 4, 0, 2], [10, 0, 0], [0, 14, 1]])

    def test_an_account_that_has_enough_too_late(self):
        told = [FEES, charge(1, 5, 1, 1, "a"), order(2, 5, 1, 1), deposit(3, 186, 1, 100)]
        self.assertEqual(asked(told, charged(1, 186), account(1, 186)), [[10, 4, 0, 2], [0, 100]])

    def test_paid_long_before(self):
        told = [FEES, charge(1, 5, 1, 1, "a"), pay(2, 5, 1, 10)]
        self.assertEqual(asked(told, charged(1, 5), charged(1, 186), charged(1, 100000), owner(1, 186)),
                         [[10, 0, 10, 1]] * 3 + [[0, 0, 0]])

    def test_given_back_after_the_surcharge(self):
        told = [FEES, charge(1, 5, 1, 1, "a"), pay(2, 40, 1, 14), refund(3, 185, 1)]
        self.assertEqual(asked(told, charged(1, 185), charged(1, 186), totals(186)),
                         [[10, 4, 0, 3], [10, 4, 0, 3], [0, 14, 0, 0, 0, 14, 0]])

    def test_what_was_paid_settles_other_charges_on_that_very_day(self):
        told = [FEES, charge(1, 5, 1, 1, "b"), pay(2, 6, 1, 16), charge(3, 100, 1, 1, "d"), charge(4, 101, 1, 1, "c"),
                charge(5, 20, 2, 1, "c")]
        self.assertEqual(asked(told, charged(1, 185), charged(3, 185), charged(4, 185), owner(1, 185)),
                         [[100, 0, 16, 0], [3, 3, 0, 0], [10, 0, 0, 0], [84 + 6 + 10, 0, 0]])
        self.assertEqual(asked(told, charged(1, 186), charged(3, 186), charged(4, 186), owner(1, 186), charged(5, 186)),
                         [[100, 0, 0, 2], [3, 3, 6, 1], [10, 0, 10, 1], [0, 0, 1], [10, 0, 0, 0]])

    def test_what_was_paid_is_the_owner_s_credit_for_what_comes_later(self):
        told = [FEES, charge(1, 5, 1, 1, "b"), pay(2, 6, 1, 16), charge(3, 187, 1, 1, "c")]
        self.assertEqual(asked(told, owner(1, 185), owner(1, 186), owner(1, 187), charged(3, 187)),
                         [[84, 0, 0], [0, 16, 1], [0, 6, 1], [10, 0, 10, 1]])

    def test_a_surcharge_and_another_s_lapsing_on_one_day(self):
        told = [FEES, charge(1, 5, 1, 1, "b"), pay(2, 6, 1, 12), charge(3, 155, 1, 1, "a")]
        self.assertEqual(asked(told, charged(3, 185), charged(3, 186), owner(1, 186)),
                         [[10, 0, 0, 0], [10, 4, 12, 0], [2, 0, 1]])

    def test_several_on_one_day(self):
        told = [FEES, charge(1, 5, 1, 1, "b"), charge(2, 5, 1, 1, "b"), charge(3, 5, 2, 1, "b"), pay(4, 6, 1, 99),
                pay(5, 6, 2, 7)]
        self.assertEqual(asked(told, owner(1, 186), owner(2, 186), totals(186)),
                         [[0, 99, 2], [0, 7, 1], [0, 106, 0, 106, 0, 0, 0]])


class Evenings(unittest.TestCase):
    def test_every_evening_of_a_charge(self):
        told = [FEES, charge(1, 5, 1, 1, "a"), pay(2, 50, 1, 3)]
        given = asked(told, *[charged(1, day) for day in range(5, 300)])
        wanted = ([[10, 0, 0, 0]] * 31 + [[10, 4, 0, 0]] * 14 + [[10, 4, 3, 0]] * 136 + [[10, 4, 0, 2]] * 114)
        self.assertEqual(given, wanted)

    def test_the_last_days_may_lie_behind_all_days(self):
        told = [FEES, charge(1, 100000, 1, 1, "a"), charge(2, 99969, 2, 1, "a"), charge(3, 99970, 3, 1, "a"),
                charge(4, 99819, 4, 1, "a"), charge(5, 99820, 5, 1, "a")]
        self.assertEqual(asked(told, *[opened(number, 100000) for number in (1, 2, 3, 4, 5)], owner(4, 100000)),
                         [[1, 1, 10, 100030, 100180], [1, 2, 14, 99999, 100149], [1, 3, 10, 100000, 100150], [0],
                          [1, 5, 14, 99850, 100000], [0, 0, 1]])

    def test_the_last_days_whatever_the_fee_says(self):
        told = [FEES, charge(1, 0, 1, 1, "b"), charge(2, 0, 1, 1, "c"), charge(3, 1, 1, 1, "a")]
        self.assertEqual(asked(told, opened(1, 40)), [[3, 1, 100, 30, 180, 2, 10, 30, 180, 3, 14, 31, 181]])

    def test_events_behind_the_evening_make_no_difference(self):
        told = [FEES, charge(1, 5, 1, 1, "a")]
        later = [pay(2, 10, 1, 10), deposit(3, 11, 1, 5), order(4, 12, 1, 1), refund(5, 13, 1)]
        asking = [charged(1, 9), owner(1, 9), account(1, 9), totals(9), opened(1, 9)]
        self.assertEqual(asked(told + later, *asking), asked(told, *asking))


if __name__ == "__main__":
    unittest.main()
