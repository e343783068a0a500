"""Writes calls as they are handed in, and takes the answers apart."""

from feebooks.desk import answers

LEAST = -9223372036854775808
MOST = 9223372036854775807
FAR = (LEAST, LEAST + 1, -1000000001, -2, -1, MOST - 1, MOST)


def row_of(text):
    """A text or a list as a row, with its length before it."""
    row = list(text.encode("latin-1")) if isinstance(text, str) else list(text)
    return [len(row)] + row


def schedule(day, text):
    return [0, day] + row_of(text)


def small(owner, yes):
    return [1, owner, yes]


def lands(*weights):
    return [2] + row_of(weights)


def deposit(k, day=10, account=1, amount=100):
    return [3, k, day, account, amount]


def bounce(k, day, about):
    return [4, k, day, about]


def charge(k, day=10, owner=1, units=1, name="filing"):
    return [5, k, day, owner, units] + row_of(name)


def pay(k, day=10, owner=1, amount=100):
    return [6, k, day, owner, amount]


def order(k, day=10, account=1, owner=1):
    return [7, k, day, account, owner]


def refund(k, day, about):
    return [8, k, day, about]


def closing(k, day=10):
    return [9, k, day]


def undo(k):
    return [10, k]


def account(number, day):
    return [11, number, day]


def charged(number, day):
    return [12, number, day]


def owner(number, day):
    return [13, number, day]


def land(number, day):
    return [14, number, day]


def totals(day):
    return [15, day]


def price(day, units, yes, name):
    return [16, day, units, yes] + row_of(name)


def text(day):
    return [17, day]


def events():
    return [18]


def owed(number, day):
    return [19, number, day]


def opened(number, day):
    return [20, number, day]


def joined(calls):
    """Calls one behind another, as one list."""
    handed = []
    for call in calls:
        handed.extend(call)
    return handed


def replies(*calls):
    """The single numbers answered to calls 0 to 10; fails if an answer is other than one number."""
    given = answers(joined(calls))
    if len(given) != 2 * len(calls) or given[0::2] != [1] * len(calls):
        raise AssertionError(f"not one number for each of {len(calls)} calls: {given}")
    return given[1::2]


def last(*calls):
    """The number answered to the last of these calls."""
    return replies(*calls)[-1]


def parted(given, count):
    """So many answers, each by itself; fails if there are other than so many."""
    parts = []
    at = 0
    while at < len(given):
        behind = at + 1 + given[at]
        parts.append(given[at + 1:behind])
        at = behind
    if at != len(given) or len(parts) != count:
        raise AssertionError(f"not {count} answers: {given}")
    return parts


def each(*calls):
    """The answers to these calls, each a list."""
    return parted(answers(joined(calls)), len(calls))


def asked(told, *calls):
    """The answers to these calls, each a list, where all this has been told, and nothing of it was refused."""
    given = each(*told, *calls)
    for call, answer in zip(told, given):
        if answer[0] < 0:
            raise AssertionError(f"refused with {answer}: {call}")
    return given[len(told):]
