"""The promises 1 to 4, and the program held against the plain books, on lines made out of seeds."""

import itertools
import random
import unittest

from tests.calls import (account, asked, bounce, charge, charged, closing, deposit, events, land, lands, opened, order,
                         owed, owner, pay, price, refund, row_of, schedule, small, text, totals)
from tests.lines import NAMES, Line, ask_call
from tests.plain import Evenings

# Of how many days, owners and accounts the lines are.
SIZES = ((9, 1, 1), (60, 2, 1), (200, 4, 3), (400, 3, 2))


def line_of(seed):
    """The line of a seed."""
    days, owners, accounts = SIZES[seed % len(SIZES)]
    return Line(seed, 60, 1 + seed % 8, days, owners, accounts)


def all_asking(line, day):
    """Every asking call that's not refused, about the evening of this day; prices and texts may be refused."""
    calls = [totals(day), text(day), events()]
    calls += [price(day, 5, yes, name) for yes in (0, 1) for name in NAMES]
    calls += [call(number, day) for call in (account, owed) for number in range(1, line.accounts + 1)]
    calls += [call(number, day) for call in (owner, opened) for number in range(1, line.owners + 1)]
    calls += [land(number, day) for number in range(1, len(line.told.weights) + 1)]
    return calls + [charged(k, day) for k, event in sorted(line.told.events.items())
                    if event["sort"] == "charge" and event["day"] <= day]


class AnyOrder(unittest.TestCase):
    def test_lines_told_in_other_orders(self):
        for seed in range(8):
            line = line_of(seed)
            asking = []
            for day in random.Random(seed).sample(range(line.days + 230), 6):
                asking += all_asking(line, day)
            asking = asking[:320]
            plain = asked(line.calls(), *asking)
            for turn in range(5):
                with self.subTest(seed=seed, turn=turn):
                    self.assertEqual(asked(line.calls(random.Random(turn)), *asking), plain)

    def test_every_order_of_a_few(self):
        told = (schedule(0, "fee a 9 shared"), schedule(6, "fee a 4 late 50 shared"), charge(2, 5, 1, 1, "a"),
                charge(1, 6, 1, 1, "a"), pay(4, 6, 1, 12), closing(3, 6))
        asking = [charged(1, 6), charged(1, 37), charged(2, 6), owner(1, 6), land(1, 6), totals(6), text(6), events()]
        wanted = [[4, 0, 3, 0], [4, 2, 3, 0], [9, 0, 9, 1], [1, 0, 0], [12], [0, 12, 0, 0, 0, 0, 12],
                  [6] + row_of("fee a 4 late 50 shared")[1:], [0, 2, 1, 4, 3]]
        for turned in itertools.permutations(told):
            self.assertEqual(asked(turned, *asking), wanted)

    def test_what_is_about_another_behind_it_in_every_order(self):
        told = (schedule(0, "fee a 9"), deposit(1, 5, 1, 9), order(2, 5, 1, 1), charge(3, 5, 1, 1, "a"),
                refund(4, 7, 3), bounce(5, 7, 1))
        asking = [totals(day) for day in (4, 5, 6, 7)] + [charged(3, 6), charged(3, 7), account(1, 7), events()]
        wanted = asked(told, *asking)
        for turned in itertools.permutations(told):
            if turned.index(told[1]) < turned.index(told[5]) and turned.index(told[3]) < turned.index(told[4]):
                self.assertEqual(asked(turned, *asking), wanted)

    def test_small_and_lands_in_whatever_order(self):
        told = (schedule(0, "fee a 9 small 50 shared"), charge(3, 5, 1, 1, "a"), pay(4, 5, 1, 9), closing(6, 5),
                small(1, 1), lands(1, 2))
        for turned in itertools.permutations(told):
            self.assertEqual(asked(turned, charged(3, 5), land(1, 5), land(2, 5)), [[5, 0, 5, 1], [2], [3]])


class AddsUp(unittest.TestCase):
    def test_what_came_in_is_somewhere(self):
        for seed in range(60):
            line = line_of(seed)
            days = sorted(random.Random(seed).sample(range(line.days + 230), 100)) + [99999, 100000]
            for day, answer in zip(days, asked(line.calls(), *[totals(day) for day in days])):
                with self.subTest(seed=seed, day=day):
                    self.assertEqual(len(answer), 7)
                    self.assertEqual(answer[0], 0)
                    self.assertEqual(answer[1], sum(answer[2:]))

    def test_the_parts_add_up_to_the_totals(self):
        for seed in range(12):
            line = line_of(seed)
            for day in random.Random(seed).sample(range(line.days + 230), 4):
                with self.subTest(seed=seed, day=day):
                    whole = asked(line.calls(), totals(day))[0]
                    accounts = asked(line.calls(), *[account(number, day) for number in range(1, 21)])
                    owners = asked(line.calls(), *[owner(number, day) for number in range(1, 41)])
                    charges = asked(line.calls(), *[call for call in all_asking(line, day) if call[0] == 12])
                    self.assertEqual(whole[2], sum(answer[1] for answer in accounts))
                    self.assertEqual(whole[3], sum(answer[1] for answer in owners))
                    self.assertEqual(whole[4] + whole[6], sum(answer[2] for answer in charges))

    def test_the_lands_shares_add_up(self):
        some = 0
        for seed in range(60):
            line = line_of(seed)
            count = len(line.told.weights)
            days = [event["day"] for event in line.told.events.values() if event["sort"] == "closing"]
            for day in sorted(set(days))[:20] + [line.days, 100000]:
                given = asked(line.calls(), totals(day), *[land(number, day) for number in range(1, count + 1)])
                with self.subTest(seed=seed, day=day):
                    self.assertEqual(sum(answer[0] for answer in given[1:]), given[0][6])
                    self.assertEqual([answer for answer, weight in zip(given[1:], line.told.weights)
                                      if weight == 0 and answer != [0]], [])
                some += given[0][6] > 0
        self.assertGreater(some, 100)


class Lapsing(unittest.TestCase):
    def test_just_if_nobody_has_paid_by_the_last_day(self):
        lapsed = 0
        for seed in range(60):
            line = line_of(seed)
            charges = {k: event["day"] for k, event in line.told.events.items() if event["sort"] == "charge"}
            days = [(k, day + behind) for k, day in charges.items() for behind in (0, 90, 180, 181, 182, 400)]
            given = asked(line.calls(), *[charged(k, day) for k, day in days])
            for at, k in enumerate(charges):
                states = [answer[3] for answer in given[6 * at:6 * at + 6]]
                with self.subTest(seed=seed, k=k):
                    self.assertNotIn(2, states[:3])
                    self.assertEqual([state == 2 for state in states[3:]], [states[2] == 0] * 3)
                    self.assertNotIn(0, states[3:])
                lapsed += states[2] == 0
        self.assertGreater(lapsed, 100)


class PlainBooks(unittest.TestCase):
    def test_many_evenings_of_many_lines(self):
        for seed in range(1000, 1016):
            line = line_of(seed)
            dice = random.Random(seed)
            evenings = Evenings(line.told, line.days + 230)
            wanted = []
            for day in dice.sample(range(line.days + 231), 100):
                wanted += [(ask_call(asking, day), answer) for asking, answer in evenings.shown[day].items()]
            wanted = dice.sample(wanted, 300)
            given = asked(line.calls(dice), *[call for call, answer in wanted])
            for (call, answer), one in zip(wanted, given):
                with self.subTest(seed=seed, call=call):
                    self.assertEqual(one, answer)
            self.assertEqual(asked(line.calls(dice), events()), [[0] + line.told.in_order()])

    def test_prices(self):
        for seed in range(8):
            line = line_of(seed)
            dice = random.Random(seed)
            asking = [(dice.randrange(line.days + 20), dice.randrange(9), dice.randrange(2), dice.choice(NAMES))
                      for turn in range(200)]
            wanted = [line.told.price(*one) for one in asking]
            self.assertEqual(asked(line.calls(), *[price(*one) for one in asking]),
                             [[-5] if one is None else [one] for one in wanted])


if __name__ == "__main__":
    unittest.main()
