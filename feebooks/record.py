"""What has been told so far: it is kept as it was told, so that any evening's books can be reckoned from it."""

DEPOSIT = 3
CHARGE = 5


class Event:
    """Something that happened. Its kind is the number of the call that told it: that puts the kinds
    of one day in their order, too. What an event of its kind doesn't have is 0 or empty."""

    def __init__(self, kind, told, name):
        self.kind = kind
        self.number = told["event"]
        self.day = told["day"]
        self.account = told.get("account", 0)
        self.source = told.get("source", 0)
        self.owner = told.get("owner", 0)
        self.amount = told.get("amount", 0)
        self.units = told.get("units", 0)
        self.about = told.get("about", 0)
        self.name = name


class Record:
    """All that has been told: schedules by their days, who's small by owners, the lands' weights,
    events by their numbers."""

    def __init__(self):
        self.schedules = {}
        self.small = {}
        self.weights = [1]
        self.events = {}


def target_refusal(record, call, kind):
    """Why the call can't be about the event it names, which is to be of this kind and not behind
    the call's day; 0 if it can."""
    target = record.events.get(call.told["about"])
    if target is None or target.kind != kind:
        return -5
    if call.told["day"] < target.day:
        return -7
    return 0


def event_order(event):
    """What puts events in their order."""
    return (event.day, event.kind, event.number)


def events_in_order(record):
    """All events, in their order."""
    return sorted(record.events.values(), key=event_order)
