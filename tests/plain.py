"""The books once more, as plainly as the document tells them: every day is walked, from day 0 on. It's slow, and
takes only what isn't refused; the program's answers are held against it."""

from fractions import Fraction
from math import ceil, floor

SORTS = ("deposit", "bounce", "charge", "pay", "order", "refund", "closing")


class Told:
    """What was told: schedules as lists of (name, amount, above, late, small, shared) by days, events by numbers,
    each a dict."""

    def __init__(self):
        self.schedules = {}
        self.small = set()
        self.weights = [1]
        self.events = {}

    def fee(self, day, name):
        held = [begin for begin in self.schedules if begin <= day]
        for fee in self.schedules[max(held)] if held else ():
            if fee[0] == name:
                return fee
        return None

    def price(self, day, units, small, name):
        found = self.fee(day, name)
        if found is None:
            return None
        amount, above, less = found[1], found[2], found[4]
        whole = amount * (units if above is None else max(units - above, 0))
        return whole - floor(Fraction(whole * less, 100)) if small and less is not None else whole

    def in_order(self):
        return sorted(self.events, key=lambda k: (self.events[k]["day"], SORTS.index(self.events[k]["sort"]), k))


class Evenings:
    """All evenings of what was told, from day 0 to the last one asked for."""

    def __init__(self, told, last):
        self.told = told
        self.accounts = {number: 0 for number in range(1, 21)}
        self.credit = {number: 0 for number in range(1, 41)}
        self.ordered = {number: 0 for number in range(1, 41)}
        self.lands = {number: 0 for number in range(1, len(told.weights) + 1)}
        self.charges = {}
        self.came_in = 0
        self.given_back = 0
        self.shown = []
        for day in range(last + 1):
            self.walk(day)
            self.shown.append(self.show())

    def walk(self, day):
        for k in sorted(self.charges):
            self.age(self.charges[k], day)
        self.settle()
        for k in self.told.in_order():
            if self.told.events[k]["day"] == day:
                getattr(self, self.told.events[k]["sort"])(k, self.told.events[k])
                self.settle()

    def age(self, one, day):
        if one["state"] == 0 and day - one["day"] == 31:
            one["surcharge"] = ceil(Fraction(one["base"] * one["late"], 100))
        if one["state"] == 0 and day - one["day"] == 181:
            one["state"] = 2
            self.credit[one["owner"]] += one["paid"]
            one["paid"] = 0

    def settle(self):
        for k in sorted(self.charges, key=lambda k: (self.charges[k]["day"], k)):
            one = self.charges[k]
            if one["state"] != 0:
                continue
            while self.credit[one["owner"]] > 0 and rest(one) > 0:
                step = min(self.credit[one["owner"]], rest(one))
                self.credit[one["owner"]] -= step
                one["paid"] += step
            number = self.ordered[one["owner"]]
            if number and rest(one) > 0 and self.accounts[number] >= rest(one):
                self.accounts[number] -= rest(one)
                one["paid"] += rest(one)
            if rest(one) == 0:
                one["state"] = 1

    def deposit(self, k, event):
        self.accounts[event["account"]] += event["amount"]
        self.came_in += event["amount"]

    def bounce(self, k, event):
        about = self.told.events[event["about"]]
        self.accounts[about["account"]] -= about["amount"]
        self.came_in -= about["amount"]

    def charge(self, k, event):
        fee = self.told.fee(event["day"], event["name"])
        base = self.told.price(event["day"], event["units"], event["owner"] in self.told.small, event["name"])
        self.charges[k] = {"day": event["day"], "owner": event["owner"], "base": base or 0, "surcharge": 0, "paid": 0,
                           "state": 0, "late": (fee and fee[3]) or 0, "shared": bool(fee and fee[5])}

    def pay(self, k, event):
        self.credit[event["owner"]] += event["amount"]
        self.came_in += event["amount"]

    def order(self, k, event):
        self.ordered[event["owner"]] = event["account"]

    def refund(self, k, event):
        one = self.charges[event["about"]]
        if one["state"] == 1:
            self.given_back += one["paid"]
            one["paid"] = 0
            one["state"] = 3

    def closing(self, k, event):
        pot = sum(one["paid"] for one in self.charges.values() if one["shared"]) - sum(self.lands.values())
        if pot <= 0:
            return
        exact = {number: Fraction(pot * weight, sum(self.told.weights))
                 for number, weight in enumerate(self.told.weights, start=1)}
        for number in exact:
            self.lands[number] += floor(exact[number])
        left = pot - sum(floor(share) for share in exact.values())
        for number in sorted(exact, key=lambda number: (floor(exact[number]) - exact[number], number))[:left]:
            self.lands[number] += 1

    def show(self):
        """The answers to every call about this evening: account, charged, owner, land, totals, owed, opened."""
        seen = {("totals", 0): [0, self.came_in, sum(self.accounts.values()), sum(self.credit.values()),
                                sum(one["paid"] for one in self.charges.values()) - sum(self.lands.values()),
                                self.given_back, sum(self.lands.values())]}
        for number in self.accounts:
            seen["account", number] = [0, self.accounts[number]]
            seen["owed", number] = [sum(rest(one) for one in self.charges.values()
                                        if one["state"] == 0 and self.ordered[one["owner"]] == number)]
        for number in self.credit:
            mine = [(one["day"], k, one) for k, one in self.charges.items() if one["owner"] == number]
            mine = [(k, one) for day, k, one in sorted(mine, key=lambda m: m[:2])]
            due = [(k, one) for k, one in mine if one["state"] == 0]
            seen["owner", number] = [sum(rest(one) for k, one in due), self.credit[number],
                                     sum(one["state"] == 2 for k, one in mine)]
            seen["opened", number] = [len(due)]
            for k, one in due:
                seen["opened", number] += [k, rest(one), one["day"] + 30, one["day"] + 180]
        for number in self.lands:
            seen["land", number] = [self.lands[number]]
        for k, one in self.charges.items():
            seen["charged", k] = [one["base"], one["surcharge"], one["paid"], one["state"]]
        return seen


def rest(one):
    """What rests of a charge."""
    return one["base"] + one["surcharge"] - one["paid"]
