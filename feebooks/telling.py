"""The calls by which something is told, each with its refusals. A refusal changes nothing."""

from feebooks.record import CHARGE, DEPOSIT, Event, target_refusal
from feebooks.schedules import Schedule, ScheduleFault, has_name_twice, read_fees
from feebooks.words import is_name

MOST_FEES = 12
MOST_SCHEDULES = 8
MOST_EVENTS = 60
MOST_LANDS = 10
MOST_WEIGHT = 1000


def keep_schedule(record, day, text, fees):
    """Keep a schedule whose text has no fault."""
    if has_name_twice(fees):
        return -2
    if len(fees) > MOST_FEES:
        return -4
    if day in record.schedules:
        return -6
    if len(record.schedules) >= MOST_SCHEDULES:
        return -9
    record.schedules[day] = Schedule(day, text, fees)
    return len(fees)


def tell_schedule(record, call):
    """Call 0: a schedule holds from a day on."""
    try:
        fees = read_fees(call.row)
    except ScheduleFault as fault:
        return -1000 - fault.place
    return keep_schedule(record, call.told["day"], call.row, fees)


def tell_small(record, call):
    """Call 1: whether an owner is small."""
    record.small[call.told["owner"]] = call.told["yes"]
    return 0


def tell_lands(record, call):
    """Call 2: the lands' weights."""
    weights = call.row
    if not 1 <= len(weights) <= MOST_LANDS:
        return -4
    if not all([0 <= weight <= MOST_WEIGHT for weight in weights]):
        return -4
    if sum(weights) == 0:
        return -4
    record.weights = weights
    return 0


def tell_event(record, call):
    """Calls 3, 6, 7 and 9, and the end of 4, 5 and 8: a new event."""
    event = Event(call.number, call.told, call.row)
    if event.number in record.events:
        return -6
    if len(record.events) >= MOST_EVENTS:
        return -9
    record.events[event.number] = event
    return len(record.events)


def has_follower(record, number):
    """Whether a bounce or a refund is about the event of this number."""
    return any([event.about == number for event in record.events.values()])


def tell_bounce(record, call):
    """Call 4: a deposit bounces."""
    refusal = target_refusal(record, call, DEPOSIT)
    if refusal < 0:
        return refusal
    # Only a bounce can be about a deposit.
    if has_follower(record, call.told["about"]):
        return -8
    return tell_event(record, call)


def tell_charge(record, call):
    """Call 5: a fee is charged to an owner."""
    if not is_name(call.row):
        return -4
    return tell_event(record, call)


def tell_refund(record, call):
    """Call 8: a charge is refunded."""
    refusal = target_refusal(record, call, CHARGE)
    if refusal < 0:
        return refusal
    return tell_event(record, call)


def tell_undo(record, call):
    """Call 10: an event is taken out."""
    number = call.told["undone"]
    if number not in record.events:
        return -5
    if has_follower(record, number):
        return -7
    record.events.pop(number)
    return len(record.events)


TELLERS = {
    0: tell_schedule,
    1: tell_small,
    2: tell_lands,
    3: tell_event,
    4: tell_bounce,
    5: tell_charge,
    6: tell_event,
    7: tell_event,
    8: tell_refund,
    9: tell_event,
    10: tell_undo,
}


def tell(record, call):
    """Do a call whose whole numbers and bytes stand, and give its answer."""
    teller = TELLERS[call.number]
    return teller(record, call)
