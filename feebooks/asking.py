"""The calls by which something is asked, each with its refusals. Asking changes nothing."""

from feebooks.books import DAYS_BEFORE_LAPSE, DAYS_WITHOUT_SURCHARGE, LAPSED
from feebooks.books import kept, open_charges, open_charges_of, rest_of
from feebooks.prices import fee_in_force, price_of, schedule_in_force
from feebooks.reckoning import books_on
from feebooks.record import CHARGE, events_in_order, target_refusal
from feebooks.words import is_name


def ask_account(record, call):
    """Call 11: what's on an account."""
    books = books_on(record, call.told["day"])
    return [0, books.accounts[call.told["account"]]]


def ask_charged(record, call):
    """Call 12: how a charge stands."""
    refusal = target_refusal(record, call, CHARGE)
    if refusal < 0:
        return [refusal]
    books = books_on(record, call.told["day"])
    charge = books.charges[call.told["about"]]
    return [charge.base, charge.surcharge, charge.paid, charge.state]


def ask_owner(record, call):
    """Call 13: how an owner stands."""
    owner = call.told["owner"]
    books = books_on(record, call.told["day"])
    rests = [rest_of(charge) for charge in open_charges_of(books, owner)]
    lapsed = [charge for charge in books.charges.values() if charge.owner == owner and charge.state == LAPSED]
    return [sum(rests), books.credit[owner], len(lapsed)]


def ask_land(record, call):
    """Call 14: what has been handed to a land."""
    books = books_on(record, call.told["day"])
    return [books.handed[call.told["land"] - 1]]


def ask_totals(record, call):
    """Call 15: what came in, and where it is."""
    books = books_on(record, call.told["day"])
    return [0, books.came_in, sum(books.accounts), sum(books.credit), kept(books), books.given_back,
            sum(books.handed)]


def ask_price(record, call):
    """Call 16: the price of a fee."""
    if not is_name(call.row):
        return [-4]
    fee = fee_in_force(record, call.told["day"], call.row)
    if fee is None:
        return [-5]
    return [price_of(fee, call.told["units"], call.told["small"] == 1)]


def ask_text(record, call):
    """Call 17: the schedule in force, as it was told."""
    schedule = schedule_in_force(record, call.told["day"])
    if schedule is None:
        return [-5]
    return [schedule.day] + schedule.text


def ask_events(record, call):
    """Call 18: the events' numbers, in their order."""
    return [0] + [event.number for event in events_in_order(record)]


def ask_owed(record, call):
    """Call 19: what rests of the charges that are to be paid from an account."""
    account = call.told["account"]
    books = books_on(record, call.told["day"])
    return [sum([rest_of(charge) for charge in open_charges(books) if books.sources[charge.owner] == account])]


def ask_opened(record, call):
    """Call 20: an owner's open charges, each with its rest and its last days."""
    books = books_on(record, call.told["day"])
    opened = open_charges_of(books, call.told["owner"])
    answer = [len(opened)]
    for charge in opened:
        answer.extend([charge.number, rest_of(charge), charge.day + DAYS_WITHOUT_SURCHARGE,
                       charge.day + DAYS_BEFORE_LAPSE])
    return answer


ASKERS = {
    11: ask_account,
    12: ask_charged,
    13: ask_owner,
    14: ask_land,
    15: ask_totals,
    16: ask_price,
    17: ask_text,
    18: ask_events,
    19: ask_owed,
    20: ask_opened,
}


def ask(record, call):
    """Do a call whose whole numbers and bytes stand, and give its answer."""
    asker = ASKERS[call.number]
    return asker(record, call)
