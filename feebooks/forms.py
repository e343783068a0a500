"""The forms in which calls are handed in: their whole numbers, the ranges of these, and their lists."""

WHOLE_NUMBERS = {
    0: ("day",),
    1: ("owner", "yes"),
    2: (),
    3: ("event", "day", "account", "amount"),
    4: ("event", "day", "about"),
    5: ("event", "day", "owner", "units"),
    6: ("event", "day", "owner", "amount"),
    7: ("event", "day", "source", "owner"),
    8: ("event", "day", "about"),
    9: ("event", "day"),
    10: ("undone",),
    11: ("account", "day"),
    12: ("about", "day"),
    13: ("owner", "day"),
    14: ("land", "day"),
    15: ("day",),
    16: ("day", "units", "small"),
    17: ("day",),
    18: (),
    19: ("account", "day"),
    20: ("owner", "day"),
}
# The calls before this one tell something.
FIRST_ASKING = 11
WITH_LIST = (0, 2, 5, 16)
WITH_TEXT = (0, 5, 16)
# What isn't listed here may be any number, but a land: how many there are has been told.
RANGES = {
    "event": (1, 999),
    "day": (0, 100000),
    "account": (1, 20),
    "source": (0, 20),
    "owner": (1, 40),
    "amount": (1, 1000000000),
    "units": (0, 10000),
    "yes": (0, 1),
    "small": (0, 1),
}
MOST_BYTES = 2000
LAST_BYTE = 255


class Call:
    """A call: its number, its whole numbers by their names, and its list."""

    def __init__(self, number, told, row):
        self.number = number
        self.told = told
        self.row = row


def split_calls(calls):
    """The calls that are handed in one behind another, each by itself."""
    parts = []
    at = 0
    while at < len(calls):
        number = calls[at]
        names = WHOLE_NUMBERS[number]
        behind = at + 1 + len(names)
        told = dict(zip(names, calls[at + 1:behind]))
        row = []
        if number in WITH_LIST:
            begin = behind + 1
            behind = begin + calls[behind]
            row = calls[begin:behind]
        parts.append(Call(number, told, row))
        at = behind
    return parts


def in_range(name, number, lands):
    """Whether a whole number of this name may be this one, where there are so many lands."""
    if name == "land":
        return 1 <= number <= lands
    span = RANGES.get(name)
    return span is None or span[0] <= number <= span[1]


def numbers_stand(call, lands):
    """Whether each whole number of the call is in its range, where there are so many lands."""
    return all([in_range(name, number, lands) for name, number in call.told.items()])


def bytes_stand(call):
    """Whether the call's text or name, if it has one, is bytes, and not too many of them."""
    if call.number not in WITH_TEXT:
        return True
    return len(call.row) <= MOST_BYTES and all([0 <= byte <= LAST_BYTE for byte in call.row])
