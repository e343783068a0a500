"""Calls 11 to 20: what they answer, their refusals in order, and that asking changes nothing."""

import unittest

from tests.calls import (FAR, account, asked, bounce, charge, charged, closing, deposit, each, events, land, lands,
                         opened, order, owed, owner, pay, price, refund, row_of, schedule, small, text, totals, undo)

TEXT = "fee a 10 late 50 shared\nfee b 3"
TOLD = (schedule(0, TEXT), lands(2, 1), deposit(1, 1, 2, 100), charge(2, 3, 5, 1, "a"), charge(3, 4, 5, 2, "b"),
        order(7, 4, 3, 5), pay(4, 5, 6, 7), order(5, 6, 2, 5), closing(6, 7))


class Answers(unittest.TestCase):
    def check(self, *pairs):
        """The calls are answered so behind all that's told."""
        given = asked(TOLD, *[call for call, wanted in pairs])
        self.assertEqual(given, [wanted for call, wanted in pairs])

    def test_account(self):
        self.check((account(2, 0), [0, 0]), (account(2, 1), [0, 100]), (account(2, 5), [0, 100]),
                   (account(2, 6), [0, 84]), (account(2, 100000), [0, 84]), (account(1, 6), [0, 0]),
                   (account(3, 6), [0, 0]), (account(20, 6), [0, 0]))

    def test_charged(self):
        self.check((charged(2, 3), [10, 0, 0, 0]), (charged(2, 5), [10, 0, 0, 0]), (charged(2, 6), [10, 0, 10, 1]),
                   (charged(2, 100000), [10, 0, 10, 1]), (charged(3, 4), [6, 0, 0, 0]), (charged(3, 6), [6, 0, 6, 1]))

    def test_owner(self):
        self.check((owner(5, 2), [0, 0, 0]), (owner(5, 3), [10, 0, 0]), (owner(5, 4), [16, 0, 0]),
                   (owner(5, 6), [0, 0, 0]), (owner(6, 4), [0, 0, 0]), (owner(6, 5), [0, 7, 0]),
                   (owner(40, 5), [0, 0, 0]))

    def test_owner_counts_only_what_is_lapsed_of_their_own(self):
        told = TOLD[:5] + (charge(8, 5, 6, 1, "a"), charge(9, 9, 6, 2, "b"), charge(10, 150, 6, 1, "b"))
        given = asked(told, owner(6, 185), owner(6, 186), owner(6, 190), owner(5, 184), owner(5, 185), owner(7, 190))
        self.assertEqual(given, [[15 + 6 + 3, 0, 0], [9, 0, 1], [3, 0, 2], [6, 0, 1], [0, 0, 2], [0, 0, 0]])

    def test_land(self):
        self.check((land(1, 6), [0]), (land(1, 7), [7]), (land(2, 7), [3]), (land(2, 100000), [3]))

    def test_totals(self):
        self.check((totals(0), [0, 0, 0, 0, 0, 0, 0]), (totals(1), [0, 100, 100, 0, 0, 0, 0]),
                   (totals(5), [0, 107, 100, 7, 0, 0, 0]), (totals(6), [0, 107, 84, 7, 16, 0, 0]),
                   (totals(7), [0, 107, 84, 7, 6, 0, 10]))

    def test_price(self):
        self.check((price(0, 4, 0, "a"), [40]), (price(0, 4, 1, "a"), [40]), (price(100000, 4, 0, "b"), [12]),
                   (price(5, 0, 0, "b"), [0]), (price(5, 10000, 0, "b"), [30000]), (price(5, 1, 0, "c"), [-5]))

    def test_text(self):
        self.check((text(0), [0] + row_of(TEXT)[1:]), (text(100000), [0] + row_of(TEXT)[1:]))

    def test_events(self):
        self.check((events(), [0, 1, 2, 3, 7, 4, 5, 6]))

    def test_owed(self):
        self.check((owed(3, 3), [0]), (owed(3, 4), [16]), (owed(3, 5), [16]), (owed(3, 6), [0]), (owed(2, 4), [0]),
                   (owed(2, 6), [0]), (owed(20, 4), [0]))

    def test_owed_by_several_owners(self):
        told = TOLD[:6] + (charge(8, 4, 6, 1, "a"), charge(9, 4, 7, 1, "a"), order(10, 4, 3, 6), order(11, 4, 4, 7),
                           pay(12, 4, 6, 3), order(13, 5, 0, 6))
        self.assertEqual(asked(told, owed(3, 4), owed(4, 4), owed(3, 5), owed(3, 34), owed(3, 35)),
                         [[16 + 7], [10], [16], [5 + 16], [5 + 16]])

    def test_opened(self):
        self.check((opened(5, 2), [0]), (opened(5, 3), [1, 2, 10, 33, 183]),
                   (opened(5, 4), [2, 2, 10, 33, 183, 3, 6, 34, 184]), (opened(5, 6), [0]), (opened(6, 5), [0]))

    def test_before_anything_is_told(self):
        given = each(account(1, 0), charged(1, 0), owner(1, 0), land(1, 0), totals(0), price(0, 1, 0, "a"), text(0),
                     events(), owed(1, 0), opened(1, 0))
        self.assertEqual(given, [[0, 0], [-5], [0, 0, 0], [0], [0] * 7, [-5], [-5], [0], [0], [0]])

    def test_what_is_told_between_two_askings_counts(self):
        given = each(schedule(0, "fee a 10"), charge(1, 5, 1, 1, "a"), owner(1, 9), pay(2, 7, 1, 4), owner(1, 9),
                     undo(2), owner(1, 9), small(1, 1), schedule(4, "fee a 8 small 25"), owner(1, 9), small(1, 0),
                     owner(1, 9))
        self.assertEqual([given[at] for at in (2, 4, 6, 9, 11)], [[10, 0, 0], [6, 0, 0], [10, 0, 0], [6, 0, 0],
                                                                 [8, 0, 0]])


class Ranges(unittest.TestCase):
    def check(self, call, at, least, most):
        """The number at this place may be the ends of the range, but not one beyond them, nor far off."""
        for number in (least, most):
            with self.subTest(call=call, at=at, number=number):
                self.assertNotEqual(asked(TOLD, call[:at] + [number] + call[at + 1:]), [[-3]])
        for number in (least - 1, most + 1) + FAR:
            with self.subTest(call=call, at=at, number=number):
                self.assertEqual(asked(TOLD, call[:at] + [number] + call[at + 1:]), [[-3]])

    def test_accounts(self):
        self.check(account(2, 5), 1, 1, 20)
        self.check(owed(2, 5), 1, 1, 20)

    def test_owners(self):
        self.check(owner(5, 5), 1, 1, 40)
        self.check(opened(5, 5), 1, 1, 40)

    def test_lands(self):
        self.check(land(1, 5), 1, 1, 2)

    def test_days(self):
        for call in (account(2, 5), charged(2, 5), owner(5, 5), land(1, 5), owed(2, 5), opened(5, 5)):
            self.check(call, 2, 0, 100000)
        for call in (totals(5), price(5, 1, 0, "a"), text(5)):
            self.check(call, 1, 0, 100000)

    def test_units_and_small(self):
        self.check(price(5, 1, 0, "a"), 2, 0, 10000)
        self.check(price(5, 1, 0, "a"), 3, 0, 1)

    def test_both_out_of_range(self):
        self.assertEqual(asked(TOLD, account(0, -1), owner(41, 100001), land(3, -1), owed(21, -1), opened(0, 100001),
                               price(-1, -1, -1, "a"), charged(-1, -1)), [[-3]] * 7)

    def test_a_land_s_range_ends_with_the_number_of_lands_told_last(self):
        given = each(land(1, 0), land(2, 0), lands(1, 1, 1), land(3, 0), land(4, 0), lands(5), land(1, 0), land(2, 0),
                     lands(0), lands(1, -1, 1), lands(), land(1, 0), land(2, 0), lands(*[1] * 10), land(10, 0),
                     land(11, 0), land(0, 0))
        self.assertEqual(given, [[0], [-3], [0], [0], [-3], [0], [0], [-3], [-4], [-4], [-4], [0], [-3], [0], [0],
                                 [-3], [-3]])


class Refusals(unittest.TestCase):
    def test_charged_of_no_charge(self):
        told = TOLD + (bounce(8, 9, 1), refund(9, 9, 2))
        for number in FAR + (0, 1, 4, 5, 6, 7, 8, 9, 10, 77, 999, 1000):
            with self.subTest(number=number):
                self.assertEqual(asked(told, charged(number, 100000)), [[-5]])

    def test_charged_of_a_charge_that_is_undone(self):
        self.assertEqual(each(charge(1, 5), charged(1, 5), undo(1), charged(1, 5)), [[1], [0, 0, 0, 1], [0], [-5]])

    def test_charged_before_the_charge_s_day(self):
        self.assertEqual(asked(TOLD, charged(2, 0), charged(2, 2), charged(2, 3)), [[-7], [-7], [10, 0, 0, 0]])
        self.assertEqual(asked([charge(1, 100000)], charged(1, 99999), charged(1, 100000)), [[-7], [0, 0, 0, 1]])

    def test_charged_in_order(self):
        self.assertEqual(asked(TOLD, charged(77, 100001), charged(2, -1), charged(77, 0), charged(1, 0)),
                         [[-3], [-3], [-5], [-5]])

    def test_price_of_no_name(self):
        for name in ("", "fee", "above", "late", "small", "shared", "A", "a1", "1", "a b", " a", "a\n", "`", "{", "\x00",
                     "\xff", "abcdefghijklm", "a" * 2000):
            with self.subTest(name=name):
                self.assertEqual(asked(TOLD, price(5, 1, 0, name)), [[-4]])
                self.assertEqual(each(price(5, 1, 0, name)), [[-4]])

    def test_price_with_numbers_that_are_no_bytes(self):
        for number in FAR + (256, 300):
            for name in ([number], [97, number], [number, 97], [97] * 1999 + [number]):
                with self.subTest(number=number, length=len(name)):
                    self.assertEqual(asked(TOLD, price(5, 1, 0, name), events()), [[-1], [0, 1, 2, 3, 7, 4, 5, 6]])

    def test_price_with_more_than_2000_bytes(self):
        self.assertEqual(each(price(5, 1, 0, [97] * 2000), price(5, 1, 0, [97] * 2001)), [[-4], [-1]])

    def test_price_in_order(self):
        for name in ("a", "c", "", "fee", [300]):
            self.assertEqual(asked(TOLD, price(-1, 1, 0, name), price(5, 10001, 0, name), price(5, 1, 2, name)),
                             [[-3]] * 3)
            self.assertEqual(each(price(-1, 1, 0, name), price(5, 10001, 0, name), price(5, 1, 2, name)), [[-3]] * 3)
        self.assertEqual(each(price(5, 1, 0, [32, 300]), price(5, 1, 0, "late"), price(5, 1, 0, "a")),
                         [[-1], [-4], [-5]])

    def test_text_in_order(self):
        self.assertEqual(each(text(-1), text(100001), text(0)), [[-3], [-3], [-5]])


class NothingChanges(unittest.TestCase):
    ASKING = (account(2, 6), charged(2, 6), charged(3, 100000), owner(5, 4), owner(6, 5), land(1, 7), totals(7),
              totals(100000), price(0, 4, 0, "a"), text(3), events(), owed(3, 4), opened(5, 4))
    REFUSED = (account(0, 0), account(1, -1), charged(1, 0), charged(2, 2), charged(2, -1), owner(41, 0), land(0, 0),
               land(11, 0), totals(100001), price(0, 1, 2, "a"), price(0, 1, 0, [256]), price(0, 1, 0, "fee"),
               price(0, 1, 0, "zz"), text(-1), owed(21, 0), opened(0, 0))
    UNDONE = (schedule(0, TEXT), schedule(1, "fee a"), schedule(1, [256]), small(5, 2), lands(0), lands(-1, 9),
              deposit(1, 0, 1, 50), deposit(9, 0, 0, 50), bounce(9, 0, 1), charge(2, 0, 5, 1, "a"),
              charge(9, 0, 5, 1, "fee"), pay(9, 0, 5, 0), pay(4, 0, 5, 50), order(9, 0, 21, 5), refund(9, 2, 2),
              refund(9, 9, 1), closing(7, 100), closing(9, 100001), undo(77), undo(0))

    def test_refused_asking(self):
        self.assertEqual([answer for answer in asked(TOLD, *self.REFUSED) if len(answer) != 1 or answer[0] >= 0], [])

    def test_asking(self):
        plain = asked(TOLD, *self.ASKING)
        for call in self.ASKING + self.REFUSED:
            for place in range(len(TOLD) + 1):
                with self.subTest(call=call, place=place):
                    given = each(*TOLD[:place], call, *TOLD[place:], *self.ASKING)
                    self.assertEqual(given[:place] + given[place + 1:], each(*TOLD) + plain)
        self.assertEqual(asked(TOLD, *self.ASKING, *reversed(self.ASKING)), plain + plain[::-1])

    def test_a_refusal(self):
        plain = asked(TOLD, *self.ASKING)
        for call in self.UNDONE:
            with self.subTest(call=call):
                given = each(*TOLD, call, *self.ASKING)[len(TOLD):]
                self.assertLess(given[0][0], 0)
                self.assertEqual(given[1:], plain)


if __name__ == "__main__":
    unittest.main()
