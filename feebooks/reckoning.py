"""Reckoning: the books of an evening, made anew from all that has been told."""

from feebooks.books import DAYS_BEFORE_LAPSE, DAYS_WITHOUT_SURCHARGE, GIVEN_BACK, LAPSED, PAID
from feebooks.books import Books, Charge, open_charges, pot_of, rest_of
from feebooks.prices import fee_in_force, price_of
from feebooks.record import CHARGE, events_in_order


def pay_from_credit(books, charge, amount):
    """Pay so much of a charge from its owner's credit."""
    books.credit[charge.owner] = books.credit[charge.owner] - amount
    charge.paid = charge.paid + amount


def pay_from_account(books, charge, amount):
    """Pay so much of a charge from the account of its owner's order."""
    source = books.sources[charge.owner]
    books.accounts[source] = books.accounts[source] - amount
    charge.paid = charge.paid + amount


def settle_charge(books, charge):
    """Pay what can be paid of an open charge."""
    rest = rest_of(charge)
    part = min(books.credit[charge.owner], rest)
    if part > 0:
        pay_from_credit(books, charge, part)
        rest = rest - part
    source = books.sources[charge.owner]
    if source != 0 and 0 < rest <= books.accounts[source]:
        pay_from_account(books, charge, rest)
        rest = 0
    if rest == 0:
        charge.state = PAID


def settle(books):
    """Go through the open charges, and pay what can be paid."""
    for charge in open_charges(books):
        settle_charge(books, charge)


def lapse(books, charge):
    """A charge lapses: what was paid on it is its owner's credit again."""
    books.credit[charge.owner] = books.credit[charge.owner] + charge.paid
    charge.paid = 0
    charge.state = LAPSED


def add_surcharge(charge):
    """A charge gets its surcharge, which is rounded up."""
    charge.surcharge = (charge.base * charge.late + 99) // 100


def pass_time(books, day):
    """What time does when a day begins."""
    for charge in open_charges(books):
        if day == charge.day + DAYS_WITHOUT_SURCHARGE + 1:
            add_surcharge(charge)
        if day == charge.day + DAYS_BEFORE_LAPSE + 1:
            lapse(books, charge)


def take_deposit(record, books, event):
    """A deposit of an amount on an account."""
    books.accounts[event.account] = books.accounts[event.account] + event.amount
    books.came_in = books.came_in + event.amount


def take_bounce(record, books, event):
    """The bounce of a deposit."""
    deposit = record.events[event.about]
    books.accounts[deposit.account] = books.accounts[deposit.account] - deposit.amount
    books.came_in = books.came_in - deposit.amount


def take_charge(record, books, event):
    """A charge of a fee to an owner."""
    fee = fee_in_force(record, event.day, event.name)
    if fee is None:
        books.charges[event.number] = Charge(event, 0, 0, False)
    else:
        base = price_of(fee, event.units, record.small.get(event.owner, 0) == 1)
        books.charges[event.number] = Charge(event, base, fee.late, fee.shared)


def take_payment(record, books, event):
    """A payment of an amount by an owner."""
    books.credit[event.owner] = books.credit[event.owner] + event.amount
    books.came_in = books.came_in + event.amount


def take_order(record, books, event):
    """An order by which an owner's charges are paid from an account."""
    books.sources[event.owner] = event.source


def take_refund(record, books, event):
    """A refund of a charge, of which nothing comes unless it's paid."""
    charge = books.charges[event.about]
    if charge.state == PAID:
        books.given_back = books.given_back + charge.paid
        charge.paid = 0
        charge.state = GIVEN_BACK


def shares_of(pot, weights):
    """What each land gets of a pot, by the weights."""
    whole = sum(weights)
    shares = [pot * weight // whole for weight in weights]
    rests = [pot * weight % whole for weight in weights]
    left = pot - sum(shares)
    places = sorted(range(len(weights)), key=lambda place: (-rests[place], place))
    for place in places[:left]:
        shares[place] = shares[place] + 1
    return shares


def take_closing(record, books, event):
    """A closing: what's paid on shared charges is handed to the lands."""
    pot = pot_of(books)
    if pot > 0:
        shares = shares_of(pot, record.weights)
        books.handed = [before + share for before, share in zip(books.handed, shares)]


TAKERS = {
    3: take_deposit,
    4: take_bounce,
    5: take_charge,
    6: take_payment,
    7: take_order,
    8: take_refund,
    9: take_closing,
}


def take(record, books, event):
    """Let an event happen."""
    taker = TAKERS[event.kind]
    taker(record, books, event)


def days_of_change(events):
    """The days on which the books may change, in order. Between them time does nothing, and settling again
    doesn't either: an owner with something open has no credit left, and no account has more than before."""
    days = [event.day for event in events]
    for event in events:
        if event.kind == CHARGE:
            days.append(event.day + DAYS_WITHOUT_SURCHARGE + 1)
            days.append(event.day + DAYS_BEFORE_LAPSE + 1)
    return sorted(set(days))


def take_day(record, books, events, day):
    """Let a day pass, of all events with its own."""
    pass_time(books, day)
    settle(books)
    for event in events:
        if event.day == day:
            take(record, books, event)
            settle(books)


def books_on(record, evening):
    """The books on the evening of a day."""
    books = Books(len(record.weights))
    events = events_in_order(record)
    for day in days_of_change(events):
        if day <= evening:
            take_day(record, books, events, day)
    return books
