"""The books: what they hold, and what can be read off them."""

OPEN = 0
PAID = 1
LAPSED = 2
GIVEN_BACK = 3
ACCOUNTS = 20
OWNERS = 40
DAYS_WITHOUT_SURCHARGE = 30
DAYS_BEFORE_LAPSE = 180


class Charge:
    """A charge, with what its fee says of it: base, late (over 100), shared."""

    def __init__(self, event, base, late, shared):
        self.number = event.number
        self.day = event.day
        self.owner = event.owner
        self.base = base
        self.late = late
        self.shared = shared
        self.surcharge = 0
        self.paid = 0
        self.state = OPEN


class Books:
    """What's on accounts, in credit, on charges and with lands. An account's number is its place, an owner's
    too, so the place 0 stays empty there. The charges, by their numbers, come in the order of settling."""

    def __init__(self, lands):
        self.accounts = [0] * (ACCOUNTS + 1)
        self.credit = [0] * (OWNERS + 1)
        self.sources = [0] * (OWNERS + 1)
        self.charges = {}
        self.handed = [0] * lands
        self.came_in = 0
        self.given_back = 0


def rest_of(charge):
    """What rests of a charge."""
    return charge.base + charge.surcharge - charge.paid


def open_charges(books):
    """The open charges, in the order in which they're settled."""
    return [charge for charge in books.charges.values() if charge.state == OPEN]


def open_charges_of(books, owner):
    """The open charges of an owner, in the order in which they're settled."""
    return [charge for charge in open_charges(books) if charge.owner == owner]


def kept(books):
    """What's paid on all charges, less all that was handed to the lands."""
    return sum([charge.paid for charge in books.charges.values()]) - sum(books.handed)


def pot_of(books):
    """What a closing has to hand to the lands; it's nothing if this is below 0."""
    return sum([charge.paid for charge in books.charges.values() if charge.shared]) - sum(books.handed)
