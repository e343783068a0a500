"""What's told is kept whole, as the books are reckoned from it; the order of telling makes no difference."""

import itertools
import unittest

from feebooks.desk import answer_to
from feebooks.forms import split_calls
from feebooks.record import Record
from tests.calls import (bounce, charge, closing, deposit, joined, lands, order, pay, refund, row_of, schedule, small,
                         undo)


def record_of(*calls):
    """The record behind these calls."""
    record = Record()
    for call in split_calls(joined(calls)):
        answer_to(record, call)
    return record


def shown(record):
    """All that a record keeps, in an order that doesn't come from the telling."""
    return ([(day, one.day, one.text, [vars(fee) for fee in one.fees])
             for day, one in sorted(record.schedules.items())],
            sorted(record.small.items()), record.weights,
            [(k, vars(event)) for k, event in sorted(record.events.items())])


def event_of(call, *before):
    """What is kept of the event of number 5, whose call this is, without what is 0 or empty."""
    kept = vars(record_of(*before, call).events[5])
    return {name: value for name, value in kept.items() if value not in (0, [])}


class Kept(unittest.TestCase):
    def test_at_the_beginning(self):
        self.assertEqual(shown(Record()), ([], [], [1], []))

    def test_schedules(self):
        text = "fee filing 120 above 3 late 50 small 20 shared\nfee copy 0\nfee c 999999999 late 7"
        record = record_of(schedule(8, "fee x 1"), schedule(7, text))
        kept = record.schedules[7]
        self.assertEqual((kept.day, kept.text), (7, row_of(text)[1:]))
        self.assertEqual([vars(fee) for fee in kept.fees], [
            {"name": row_of("filing")[1:], "amount": 120, "above": 3, "late": 50, "small": 20, "shared": True},
            {"name": row_of("copy")[1:], "amount": 0, "above": 0, "late": 0, "small": 0, "shared": False},
            {"name": row_of("c")[1:], "amount": 999999999, "above": 0, "late": 7, "small": 0, "shared": False}])
        self.assertEqual(sorted(record.schedules), [7, 8])

    def test_who_is_small(self):
        record = record_of(small(3, 1), small(4, 1), small(5, 0), small(4, 0), small(4, 2))
        self.assertEqual([owner for owner in range(1, 41) if record.small.get(owner, 0)], [3])

    def test_weights(self):
        self.assertEqual(record_of(lands(3, 0, 1000)).weights, [3, 0, 1000])
        self.assertEqual(record_of(lands(3, 0, 1000), lands(7)).weights, [7])
        self.assertEqual(record_of(lands(3, 0), lands(0), lands(), lands(1001)).weights, [3, 0])

    def test_events(self):
        self.assertEqual(event_of(deposit(5, 11, 20, 33)),
                         {"kind": 3, "number": 5, "day": 11, "account": 20, "amount": 33})
        self.assertEqual(event_of(bounce(5, 12, 1), deposit(1)), {"kind": 4, "number": 5, "day": 12, "about": 1})
        self.assertEqual(event_of(charge(5, 13, 40, 6, "copy")),
                         {"kind": 5, "number": 5, "day": 13, "owner": 40, "units": 6, "name": row_of("copy")[1:]})
        self.assertEqual(event_of(pay(5, 14, 39, 34)), {"kind": 6, "number": 5, "day": 14, "owner": 39, "amount": 34})
        self.assertEqual(event_of(order(5, 15, 19, 38)),
                         {"kind": 7, "number": 5, "day": 15, "source": 19, "owner": 38})
        self.assertEqual(event_of(refund(5, 16, 1), charge(1)), {"kind": 8, "number": 5, "day": 16, "about": 1})
        self.assertEqual(event_of(closing(5, 17)), {"kind": 9, "number": 5, "day": 17})

    def test_undone_events_are_gone(self):
        self.assertEqual(shown(record_of(deposit(1), pay(2), undo(1))), shown(record_of(pay(2))))

    def test_refusals_change_nothing(self):
        told = (schedule(5, "fee a 1"), small(3, 1), lands(2, 1), deposit(1), charge(2), bounce(3, 10, 1),
                refund(4, 10, 2))
        refused = (schedule(5, "fee b 2"), schedule(6, "fee b"), schedule(6, [256]), schedule(100001, "fee b 2"),
                   schedule(6, "fee b 2\nfee b 2"), small(3, 2), small(3, -1), small(41, 1), lands(0), lands(),
                   lands(-1, 5), deposit(1, amount=7), deposit(6, account=21), bounce(7, 11, 1), bounce(7, 9, 1),
                   charge(2, units=4), charge(8, name="fee"), refund(9, 9, 2), refund(9, 10, 1), undo(1), undo(2),
                   undo(77), closing(4), closing(1000))
        plain = shown(record_of(*told))
        for call in refused:
            with self.subTest(call=call):
                self.assertEqual(shown(record_of(*told, call)), plain)


class AnyOrder(unittest.TestCase):
    def test_schedules_and_events_in_whatever_order(self):
        told = (schedule(5, "fee a 1"), schedule(9, "fee a 2"), deposit(3, 20), charge(1, 4), pay(2, 4))
        plain = shown(record_of(*told))
        for turned in itertools.permutations(told):
            self.assertEqual(shown(record_of(*turned)), plain)

    def test_what_is_about_another_comes_behind_it_alone(self):
        told = (deposit(1), charge(2), bounce(3, 10, 1), refund(4, 12, 2), refund(5, 10, 2))
        plain = shown(record_of(*told))
        for turned in itertools.permutations(told):
            if turned.index(told[0]) < turned.index(told[2]) and turned.index(told[1]) < min(
                    turned.index(told[3]), turned.index(told[4])):
                self.assertEqual(shown(record_of(*turned)), plain)


if __name__ == "__main__":
    unittest.main()
