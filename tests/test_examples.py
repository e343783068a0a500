"""Three examples, call by call."""

import unittest

from tests.calls import (account, bounce, charge, charged, closing, deposit, each, events, land, lands, opened, order,
                         owed, owner, pay, price, refund, row_of, schedule, small, text, totals)


class Examples(unittest.TestCase):
    def check(self, *pairs):
        """The calls, one behind another, are answered so."""
        given = each(*[call for call, wanted in pairs])
        for at, (call, wanted) in enumerate(pairs):
            with self.subTest(at=at, call=call):
                self.assertEqual(given[at], wanted)

    def test_a_charge_paid_in_part_lapses(self):
        self.check(
            (schedule(0, "fee a 10 late 33"), [1]),
            (charge(1, 5, 1, 1, "a"), [1]),
            (pay(2, 6, 1, 4), [2]),
            (charged(1, 5), [10, 0, 0, 0]),
            (charged(1, 35), [10, 0, 4, 0]),
            (charged(1, 36), [10, 4, 4, 0]),
            (opened(1, 36), [1, 1, 10, 35, 185]),
            (charged(1, 185), [10, 4, 4, 0]),
            (owner(1, 185), [10, 0, 0]),
            (charged(1, 186), [10, 4, 0, 2]),
            (owner(1, 186), [0, 4, 1]),
            (charged(1, 4), [-7]),
            (totals(186), [0, 4, 0, 4, 0, 0, 0]))

    def test_accounts_lands_a_refund_and_a_bounce(self):
        self.check(
            (schedule(0, "fee a 10\nfee b 7 above 2 small 33 shared"), [2]),
            (small(2, 1), [0]),
            (lands(1, 1, 1), [0]),
            (deposit(1, 1, 3, 15), [1]),
            (order(2, 1, 3, 2), [2]),
            (charge(3, 2, 2, 1, "a"), [3]),
            (charge(4, 2, 2, 5, "b"), [4]),
            (pay(5, 3, 2, 4), [5]),
            (closing(6, 3), [6]),
            (owed(3, 2), [15]),
            (opened(2, 2), [1, 4, 15, 32, 182]),
            (account(3, 2), [0, 5]),
            (pay(7, 4, 2, 6), [7]),
            (closing(8, 4), [8]),
            (land(1, 4), [6]),
            (land(2, 4), [5]),
            (land(3, 4), [4]),
            (totals(4), [0, 25, 0, 0, 10, 0, 15]),
            (refund(9, 5, 4), [9]),
            (closing(10, 6), [10]),
            (totals(6), [0, 25, 0, 0, -5, 15, 15]),
            (bounce(11, 7, 1), [11]),
            (account(3, 7), [0, -15]),
            (totals(7), [0, 10, -15, 0, -5, 15, 15]),
            (events(), [0, 1, 2, 3, 4, 5, 6, 7, 8, 9, 10, 11]))

    def test_prices_and_texts(self):
        told = "fee b 7 above 2 small 33"
        self.check(
            (price(3, 5, 1, "b"), [-5]),
            (schedule(4, told), [1]),
            (price(3, 5, 1, "b"), [-5]),
            (price(4, 5, 1, "b"), [15]),
            (price(4, 5, 0, "b"), [21]),
            (price(4, 2, 0, "b"), [0]),
            (price(4, 5, 0, "c"), [-5]),
            (price(4, 5, 0, "fee"), [-4]),
            (price(4, 5, 2, [300]), [-3]),
            (text(9), [4] + row_of(told)[1:]),
            (text(3), [-5]))


if __name__ == "__main__":
    unittest.main()
