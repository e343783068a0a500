"""What has been told so far: it is kept as it was told, so that any evening's books can be reckoned from it."""


class Event:
    """Something that happened. Its kind is the number of the call that told it: that puts the kinds
    of one day in their order, too. What an event of its kind doesn't have is 0 or empty."""

    def __init__(self, kind, told, name):
        self.kind = kind
        self.number = told["event"]
        self.day = told["day"]
        self.account = told.get("account", 0)
        self.source = told.get("source", 0)
        self.owner = told.get("owner", 0)
        self.amount = told.get("amount", 0)
        self.units = told.get("units", 0)
        self.about = told.get("about", 0)
        self.name = name


class Record:
    """All that has been told: schedules by their days, who's small by owners, the lands' weights,
    events by their numbers."""

    def __init__(self):
        self.schedules = {}
        self.small = {}
        self.weights = [1]
        self.events = {}
