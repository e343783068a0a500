"""Prices: the schedule in force on a day, its fees by their names, and what a fee comes to."""


def schedule_in_force(record, day):
    """The schedule that is in force on a day; None before the first."""
    begun = [begin for begin in record.schedules if begin <= day]
    if len(begun) == 0:
        return None
    return record.schedules[max(begun)]


def fee_in_force(record, day, name):
    """The fee of this name in the schedule in force on a day; None if there's none."""
    schedule = schedule_in_force(record, day)
    if schedule is None:
        return None
    for fee in schedule.fees:
        if fee.name == name:
            return fee
    return None


def price_of(fee, units, small):
    """The price of a fee for so many units; small tells whether it's for the small."""
    price = fee.amount * max(0, units - fee.above)
    if small:
        return price - price * fee.small // 100
    return price
