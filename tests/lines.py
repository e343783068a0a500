"""Makes lines of calls out of a seed, each with what the plain books are told by it."""

import random

from tests.calls import (account, bounce, charge, charged, closing, deposit, land, lands, opened, order, owed, owner,
                         pay, refund, schedule, small, totals)
from tests.plain import Told

ASKING = {"account": account, "charged": charged, "owner": owner, "land": land, "owed": owed, "opened": opened}
NAMES = ("a", "bb", "copy", "filing", "none")


def ask_call(asking, day):
    """The call that asks for this on the evening of the day."""
    name, number = asking
    return totals(day) if name == "totals" else ASKING[name](number, day)


class Line:
    """A line made out of a seed: calls, by which it's told, in an order in which none is refused, and told."""

    def __init__(self, seed, events=60, schedules=8, days=200, owners=4, accounts=3):
        self.dice = random.Random(seed)
        self.days = days
        self.owners = owners
        self.accounts = accounts
        self.told = Told()
        self.schedule_calls = []
        self.event_calls = {}
        self.other_calls = []
        # Most lines have a schedule early on, or all their charges would come to nothing.
        for day in self.dice.sample(range(1, days + 9), schedules):
            self.add_schedule(day if self.told.schedules or day % 4 == 0 else 0)
        self.add_small_and_lands()
        while len(self.told.events) < events:
            self.add_event(self.dice.choice(self.free_numbers()))

    def free_numbers(self):
        return [k for k in range(1, 1000) if k not in self.told.events]

    def add_schedule(self, day):
        fees = []
        for name in self.dice.sample(NAMES[:4], self.dice.choice((2, 4, 4, 4))):
            fees.append((name, self.dice.choice((0, 7, 10, 33, 99, 12345)), self.dice.choice((None, None, 0, 1, 3)),
                         self.dice.choice((None, 0, 1, 33, 100)), self.dice.choice((None, 0, 15, 33, 100)),
                         self.dice.random() < 0.6))
        self.told.schedules[day] = fees
        self.schedule_calls.append(schedule(day, "\n".join(written(fee) for fee in fees)))

    def add_small_and_lands(self):
        self.told.small = set(self.dice.sample(range(1, self.owners + 1), self.owners // 2))
        self.told.weights = [self.dice.choice((0, 1, 1, 2, 5, 333, 1000)) for number in range(self.dice.randint(1, 10))]
        self.told.weights[self.dice.randrange(len(self.told.weights))] = self.dice.randint(1, 1000)
        self.other_calls = [small(number, 1) for number in sorted(self.told.small)] + [lands(*self.told.weights)]

    def add_event(self, k):
        """One more event; a bounce or a refund only if there's something that it may be about."""
        sort = self.dice.choice(("deposit", "charge", "charge", "charge", "pay", "pay", "order", "bounce", "refund",
                                 "closing", "closing"))
        day = self.dice.randrange(self.days)
        event = {"sort": sort, "day": day}
        if sort in ("bounce", "refund"):
            found = self.targets(sort)
            if not found:
                return
            event["about"] = self.dice.choice(found)
            event["day"] = self.told.events[event["about"]]["day"] + self.dice.choice((0, 0, 1, 5, 40))
        if sort in ("deposit", "order"):
            event["account"] = self.dice.randint(1 if sort == "deposit" else 0, self.accounts)
        if sort in ("charge", "pay", "order"):
            event["owner"] = self.dice.randint(1, self.owners)
        if sort in ("deposit", "pay"):
            event["amount"] = self.dice.choice((1, 3, 10, 50, 100, 20000))
        if sort == "charge":
            event["units"] = self.dice.choice((0, 1, 2, 3, 4, 10))
            event["name"] = self.dice.choice(NAMES + NAMES[:4])
        self.told.events[k] = event
        self.event_calls[k] = call_of(k, event)

    def targets(self, sort):
        """What a bounce or a refund may be about."""
        bounced = [event["about"] for event in self.told.events.values() if event["sort"] == "bounce"]
        wanted = "deposit" if sort == "bounce" else "charge"
        return [k for k, event in self.told.events.items() if event["sort"] == wanted and k not in bounced]

    def calls(self, dice=None):
        """All that's told, in the order in which it was made, or shaken by the dice: only what is about another
        event comes behind that one."""
        if dice is None:
            return self.schedule_calls + self.other_calls + list(self.event_calls.values())
        free = [k for k in self.event_calls if "about" not in self.told.events[k]]
        about = [k for k in self.event_calls if "about" in self.told.events[k]]
        dice.shuffle(free)
        dice.shuffle(about)
        for k in about:
            behind = free.index(self.told.events[k]["about"]) + 1
            free.insert(dice.randint(behind, len(free)), k)
        mixed = [self.event_calls[k] for k in free]
        for call in dice.sample(self.schedule_calls + self.other_calls, len(self.schedule_calls + self.other_calls)):
            mixed.insert(dice.randint(0, len(mixed)), call)
        return mixed


def written(fee):
    """A fee as it stands in a schedule's text."""
    words = ["fee", fee[0], str(fee[1])]
    for word, number in zip(("above", "late", "small"), fee[2:5]):
        words += [] if number is None else [word, str(number)]
    return " ".join(words + ["shared"] * fee[5])


def call_of(k, event):
    """The call that tells this event."""
    day = event["day"]
    if event["sort"] == "deposit":
        return deposit(k, day, event["account"], event["amount"])
    if event["sort"] == "bounce":
        return bounce(k, day, event["about"])
    if event["sort"] == "charge":
        return charge(k, day, event["owner"], event["units"], event["name"])
    if event["sort"] == "pay":
        return pay(k, day, event["owner"], event["amount"])
    if event["sort"] == "order":
        return order(k, day, event["account"], event["owner"])
    if event["sort"] == "refund":
        return refund(k, day, event["about"])
    return closing(k, day)
