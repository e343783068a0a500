"""Prices, the schedule in force, and what a charge's base comes to by them."""

import unittest

from tests.calls import asked, charge, charged, each, price, row_of, schedule, small, text


def prices(fee, *pairs):
    """The prices of a fee, whose words behind the name are told, for pairs of units and small."""
    given = asked([schedule(0, "fee a " + fee)], *[price(0, units, yes, "a") for units, yes in pairs])
    return [answer[0] for answer in given]


class Prices(unittest.TestCase):
    def test_amount_times_units(self):
        self.assertEqual(prices("7", (0, 0), (1, 0), (5, 0), (10000, 0)), [0, 7, 35, 70000])
        self.assertEqual(prices("0", (0, 0), (1, 0), (10000, 1)), [0, 0, 0])

    def test_above(self):
        self.assertEqual(prices("7 above 3", (0, 0), (2, 0), (3, 0), (4, 0), (10, 0)), [0, 0, 0, 7, 49])
        self.assertEqual(prices("7 above 0", (0, 0), (1, 0), (5, 0)), [0, 7, 35])
        self.assertEqual(prices("7 above 10000", (9999, 0), (10000, 0)), [0, 0])
        self.assertEqual(prices("7 above 9999", (9999, 0), (10000, 0)), [0, 7])

    def test_small(self):
        self.assertEqual(prices("10 small 30", (1, 0), (1, 1), (3, 1)), [10, 7, 21])
        self.assertEqual(prices("10 small 0", (1, 0), (1, 1)), [10, 10])
        self.assertEqual(prices("10 small 100", (1, 0), (1, 1), (10000, 1)), [10, 0, 0])
        self.assertEqual(prices("10", (1, 1), (5, 1)), [10, 50])

    def test_the_reduction_is_rounded_down(self):
        self.assertEqual(prices("1 small 99", (1, 1), (2, 1), (100, 1), (101, 1)), [1, 1, 1, 2])
        self.assertEqual(prices("7 small 50", (1, 1), (2, 1)), [4, 7])
        self.assertEqual(prices("1 small 1", (99, 1), (100, 1), (199, 1), (200, 1)), [99, 99, 198, 198])
        self.assertEqual(prices("5 small 33", (3, 1)), [11])

    def test_above_and_small(self):
        self.assertEqual(prices("7 above 2 small 33", (5, 0), (5, 1), (2, 1), (1, 1), (3, 1)), [21, 15, 0, 0, 5])

    def test_late_and_shared_make_no_difference(self):
        self.assertEqual(prices("7 above 2 late 100 small 33 shared", (5, 0), (5, 1)), [21, 15])

    def test_great_amounts(self):
        self.assertEqual(prices("999999999 small 33", (10000, 0), (10000, 1)), [9999999990000, 6699999993300])
        self.assertEqual(prices("999999999 above 1 small 1", (10000, 0), (10000, 1), (2, 1)),
                         [9998999990001, 9998999990001 - 99989999900, 999999999 - 9999999])

    def test_the_very_name(self):
        told = [schedule(0, "fee ab 1\nfee a 2\nfee abcdefghijkl 3\nfee ba 4")]
        self.assertEqual(asked(told, *[price(0, 1, 0, name) for name in ("a", "ab", "ba", "b", "abc", "abcdefghijkl",
                                                                         "abcdefghijk")]),
                         [[2], [1], [4], [-5], [-5], [3], [-5]])


class InForce(unittest.TestCase):
    def check(self, told, wanted):
        """Price, text and a charge's base show that on these days these schedules are in force, named by the days
        from which they hold; None: none."""
        texts = {day: f"fee a {day + 1} late 7" for day in wanted.values() if day is not None}
        told = [schedule(day, texts[day]) for day in told]
        for day, begin in wanted.items():
            with self.subTest(day=day):
                charges = [charge(1, day, 1, 3, "a")]
                given = asked(told + charges, price(day, 3, 0, "a"), text(day), charged(1, day))
                if begin is None:
                    self.assertEqual(given, [[-5], [-5], [0, 0, 0, 1]])
                else:
                    self.assertEqual(given, [[3 * begin + 3], [begin] + row_of(texts[begin])[1:],
                                             [3 * begin + 3, 0, 0, 0]])

    def test_before_on_between_and_behind(self):
        self.check([10, 20], {0: None, 9: None, 10: 10, 11: 10, 19: 10, 20: 20, 21: 20, 100000: 20})

    def test_told_in_other_orders(self):
        wanted = {4: None, 5: 5, 9: 5, 10: 10, 14: 10, 15: 15, 19: 15, 20: 20, 100000: 20}
        self.check([5, 10, 15, 20], wanted)
        self.check([20, 15, 10, 5], wanted)
        self.check([10, 20, 5, 15], wanted)

    def test_the_first_and_the_last_day(self):
        self.check([0, 100000], {0: 0, 1: 0, 99999: 0, 100000: 100000})

    def test_eight(self):
        self.check([70, 10, 60, 20, 50, 30, 40, 0], {day: day // 10 * 10 for day in range(0, 80, 5)})

    def test_told_late(self):
        given = each(schedule(0, "fee a 10"), charge(1, 5, 1, 1, "a"), charge(2, 8, 1, 1, "a"), charged(1, 9),
                     charged(2, 9), schedule(6, "fee a 20"), charged(1, 9), charged(2, 9), price(5, 1, 0, "a"),
                     price(6, 1, 0, "a"), schedule(5, "fee b 1"), charged(1, 9), charged(2, 9))
        self.assertEqual(given[3:5], [[10, 0, 0, 0], [10, 0, 0, 0]])
        self.assertEqual(given[6:10], [[10, 0, 0, 0], [20, 0, 0, 0], [10], [20]])
        self.assertEqual(given[11:], [[0, 0, 0, 1], [20, 0, 0, 0]])

    def test_a_fee_of_an_earlier_schedule_alone(self):
        told = [schedule(0, "fee a 1\nfee b 2"), schedule(5, "fee b 3")]
        self.assertEqual(asked(told, price(4, 1, 0, "a"), price(5, 1, 0, "a"), price(5, 1, 0, "b")), [[1], [-5], [3]])

    def test_a_refused_schedule_is_not_in_force(self):
        given = each(schedule(0, "fee a 1"), schedule(3, "fee a 2\nfee a 3"), schedule(0, "fee a 4"), price(9, 1, 0, "a"))
        self.assertEqual(given, [[1], [-2], [-6], [1]])


class Texts(unittest.TestCase):
    def test_all_bytes_are_answered_without_a_count(self):
        told = "fee a 0"
        self.assertEqual(each(schedule(7, told), text(7)), [[1], [7] + [102, 101, 101, 32, 97, 32, 48]])

    def test_a_long_one(self):
        told = "\n".join(f"fee {chr(97 + i) * 12} 999999999 above 10000 late 100 small 100 shared" for i in range(12))
        self.assertEqual(each(schedule(7, told), text(7), text(9)), [[12]] + [[7] + row_of(told)[1:]] * 2)


class Bases(unittest.TestCase):
    def test_for_who_is_small_and_who_is_not(self):
        told = [schedule(0, "fee a 7 above 2 small 33"), charge(1, 5, 1, 5, "a"), charge(2, 5, 2, 5, "a"), small(2, 1)]
        self.assertEqual(asked(told, charged(1, 5), charged(2, 5)), [[21, 0, 0, 0], [15, 0, 0, 0]])
        self.assertEqual(asked(told + [small(2, 0), small(1, 1)], charged(1, 5), charged(2, 5)),
                         [[15, 0, 0, 0], [21, 0, 0, 0]])

    def test_small_told_twice_and_for_all_days(self):
        told = [small(1, 1), small(1, 1), small(1, 0), charge(1, 0, 1, 1, "a"), charge(2, 90, 1, 1, "a"),
                schedule(0, "fee a 10 small 50")]
        self.assertEqual(asked(told, charged(1, 90), charged(2, 90)), [[10, 0, 0, 0], [10, 0, 0, 0]])
        self.assertEqual(asked(told + [small(1, 1)], charged(1, 90), charged(2, 90)), [[5, 0, 0, 0], [5, 0, 0, 0]])

    def test_great_ones(self):
        told = [schedule(0, "fee a 999999999 late 100"), charge(1, 0, 1, 10000, "a")]
        self.assertEqual(asked(told, charged(1, 30), charged(1, 31)),
                         [[9999999990000, 0, 0, 0], [9999999990000, 9999999990000, 0, 0]])


if __name__ == "__main__":
    unittest.main()
