"""Writes calls as they are handed in, and takes the answers apart."""

from feebooks.desk import answers

LEAST = -9223372036854775808
MOST = 9223372036854775807
FAR = (LEAST, LEAST + 1, -1000000001, -2, -1, MOST - 1, MOST)


def row_of(text):
    """A text or a list as a row, with its length before it."""
    row = list(text.encode("latin-1")) if isinstance(text, str) else list(text)
    return [len(row)] + row


def schedule(day, text):
    return [0, day] + row_of(text)


def small(owner, yes):
    return [1, owner, yes]


def lands(*weights):
    return [2] + row_of(weights)


def deposit(k, day=10, account=1, amount=100):
    return [3, k, day, account, amount]


def bounce(k, day, about):
    return [4, k, day, about]


def charge(k, day=10, owner=1, units=1, name="filing"):
    return [5, k, day, owner, units] + row_of(name)


def pay(k, day=10, owner=1, amount=100):
    return [6, k, day, owner, amount]


def order(k, day=10, account=1, owner=1):
    return [7, k, day, account, owner]


def refund(k, day, about):
    return [8, k, day, about]


def closing(k, day=10):
    return [9, k, day]


def undo(k):
    return [10, k]


def joined(calls):
    """Calls one behind another, as one list."""
    handed = []
    for call in calls:
        handed.extend(call)
    return handed


def replies(*calls):
    """The single numbers answered to calls 0 to 10; fails if an answer is other than one number."""
    given = answers(joined(calls))
    if len(given) != 2 * len(calls) or given[0::2] != [1] * len(calls):
        raise AssertionError(f"not one number for each of {len(calls)} calls: {given}")
    return given[1::2]


def last(*calls):
    """The number answered to the last of these calls."""
    return replies(*calls)[-1]
