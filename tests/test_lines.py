"""Lines as long as they may be: 400 calls, 60 events, 8 schedules, every evening."""

import time
import unittest

from feebooks.desk import answers
from tests.calls import (account, asked, charge, charged, closing, deposit, each, events, joined, land, lands, opened,
                         order, owed, owner, parted, pay, price, schedule, small, text, totals, undo)
from tests.lines import Line
from tests.plain import Evenings

# Far more than it takes, and yet seconds.
MOST_SECONDS = 10
NAME = "zxxxxxxxxxxx"
LONG = "\n".join(f"fee {chr(111 + i)}xxxxxxxxxxx 999999999 above 1 late 33 small 20 shared" for i in range(12))


def timed(calls):
    """The answers to these calls, and in how many seconds they're given."""
    handed = joined(calls)
    begin = time.process_time()
    given = answers(handed)
    return parted(given, len(calls)), time.process_time() - begin


class EveryEvening(unittest.TestCase):
    def test_totals_from_day_0_to_far_behind_the_last_event(self):
        for seed in (1, 2):
            line = Line(seed, 60, 8, 120, 4, 3)
            told = line.calls()
            wanted = Evenings(line.told, 400 - len(told) - 1).shown
            given, seconds = timed(told + [totals(day) for day in range(400 - len(told))])
            self.assertEqual(len(given), 400)
            self.assertEqual(given[len(told):], [evening["totals", 0] for evening in wanted])
            self.assertLess(seconds, MOST_SECONDS)

    def test_each_call_that_asks_for_an_evening(self):
        line = Line(3, 60, 8, 100, 2, 2)
        told = line.calls()
        number = min(k for k, event in line.told.events.items() if event["sort"] == "charge")
        shown = Evenings(line.told, 400 - len(told) - 1).shown
        for call, name, at in ((account, "account", 1), (owner, "owner", 2), (land, "land", 1), (owed, "owed", 2),
                               (opened, "opened", 1), (charged, "charged", number)):
            with self.subTest(name=name):
                given, seconds = timed(told + [call(at, day) for day in range(400 - len(told))])
                self.assertEqual(given[len(told):], [evening.get((name, at), [-7]) for evening in shown])
                self.assertLess(seconds, MOST_SECONDS)

    def test_60_charges_that_stay_open(self):
        told = [schedule(day, LONG) for day in range(8)]
        told += [charge(k, 2 * k, 1 + k % 40, 10000, NAME) for k in range(1, 61)]
        given, seconds = timed(told + [totals(100000)] * 332)
        self.assertEqual(given[-1], [0] * 7)
        self.assertLess(seconds, MOST_SECONDS)

    def test_telling_and_asking_by_turns(self):
        told = [schedule(day, LONG) for day in range(8)]
        told += [charge(k, 2 * k, 1, 10000, NAME) for k in range(1, 60)]
        turns = [pay(60, 100000, 1, 5), owner(1, 100000), undo(60)] * 111
        given, seconds = timed(told + turns)
        self.assertEqual(given[-3:], [[60], [0, 5, 59], [59]])
        self.assertLess(seconds, MOST_SECONDS)

    def test_opened_with_60_charges(self):
        told = [schedule(0, "fee a 1")] + [charge(k, 5, 1, 1, "a") for k in range(60, 0, -1)]
        given, seconds = timed(told + [opened(1, 5)] * 339)
        wanted = [60]
        for k in range(1, 61):
            wanted += [k, 1, 35, 185]
        self.assertEqual(given[61:], [wanted] * 339)
        self.assertLess(seconds, MOST_SECONDS)

    def test_texts_as_long_as_they_may_be(self):
        longest = LONG.replace("above 1 late 33 small 20", "above 10000 late 100 small 100")
        given, seconds = timed([schedule(0, longest)] + [text(5)] * 399)
        self.assertEqual(given[1:], [[0] + list(longest.encode())] * 399)
        self.assertLess(seconds, MOST_SECONDS)


class Handed(unittest.TestCase):
    CALLS = (schedule(0, "fee a 10 late 50 small 20 shared\nfee b 3"), small(2, 1), lands(2, 1), deposit(1, 1, 2, 100),
             charge(2, 3, 2, 1, "a"), order(3, 4, 2, 2), pay(4, 5, 1, 7), closing(5, 6), account(2, 6), charged(2, 6),
             charged(9, 6), owner(1, 6), land(1, 6), land(3, 6), totals(6), price(0, 1, 1, "a"), price(0, 1, 1, [999]),
             text(4), text(-4), events(), owed(2, 6), opened(2, 3))
    ANSWERS = [[2], [0], [0], [1], [2], [3], [4], [5], [0, 92], [8, 0, 8, 1], [-5], [0, 7, 0], [5], [-3],
               [0, 107, 92, 7, 0, 0, 8], [8], [-1], [0] + CALLS[0][3:], [-3], [0, 1, 2, 3, 4, 5], [0],
               [1, 2, 8, 33, 183]]

    def test_all_calls_in_one_line(self):
        self.assertEqual(each(*self.CALLS), self.ANSWERS)

    def test_each_answer_has_its_length_before_it(self):
        wanted = []
        for answer in self.ANSWERS:
            wanted += [len(answer)] + answer
        self.assertEqual(answers(joined(self.CALLS)), wanted)

    def test_written_out(self):
        self.assertEqual(answers([11, 1, 0, 12, 1, 0, 13, 1, 0, 14, 1, 0, 15, 0]),
                         [2, 0, 0, 1, -5, 3, 0, 0, 0, 1, 0, 7, 0, 0, 0, 0, 0, 0, 0])
        self.assertEqual(answers([16, 0, 1, 0, 1, 97, 17, 0, 18, 19, 1, 0, 20, 1, 0]), [1, -5, 1, -5, 1, 0, 1, 0, 1, 0])
        self.assertEqual(answers([16, 0, 1, 0, 0, 18]), [1, -4, 1, 0])
        self.assertEqual(answers([16, 0, 1, 0, 3, 18, 18, 18, 18]), [1, -4, 1, 0])

    def test_it_gives_back_a_list_of_whole_numbers(self):
        given = answers(joined(self.CALLS))
        self.assertIs(type(given), list)
        self.assertEqual({type(number) for number in given}, {int})

    def test_what_is_handed_in_stays_as_it_was(self):
        handed = joined(self.CALLS)
        copy = list(handed)
        answers(handed)
        self.assertEqual(handed, copy)
        line = joined(Line(5).calls() + [totals(day) for day in range(0, 400, 9)])
        copy = list(line)
        answers(line)
        self.assertEqual(line, copy)

    def test_nothing_is_kept_from_one_time_to_the_next(self):
        for turn in range(3):
            self.assertEqual(each(*self.CALLS), self.ANSWERS)
            self.assertEqual(each(account(2, 6), owner(1, 6), land(2, 6), totals(6), text(6), events()),
                             [[0, 0], [0, 0, 0], [-3], [0] * 7, [-5], [0]])
            self.assertEqual(asked([schedule(0, "fee a 10 small 20"), charge(2, 3, 2, 1, "a")], charged(2, 3)),
                             [[10, 0, 0, 0]])

    def test_what_is_given_back_is_new_each_time(self):
        first = answers(joined(self.CALLS))
        copy = list(first)
        first.clear()
        self.assertEqual(answers(joined(self.CALLS)), copy)


if __name__ == "__main__":
    unittest.main()
