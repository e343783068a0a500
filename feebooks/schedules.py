"""Schedules: their fees, read from their texts, and the place of a text's fault."""

from feebooks.words import LINE_END, is_name, is_number, number_of, spelled, split_words

MOST_ABOVE = 10000
MOST_PERCENT = 100


class ScheduleFault(Exception):
    """A word of a schedule's text can't stand where it stands."""

    def __init__(self, place):
        Exception.__init__(self, place)
        self.place = place


class Fee:
    """A fee of a schedule. What's left out is 0, for that changes no price and no surcharge."""

    def __init__(self, name, amount, above, late, small, shared):
        self.name = name
        self.amount = amount
        self.above = above
        self.late = late
        self.small = small
        self.shared = shared


class Schedule:
    """A schedule, with the day from which it holds."""

    def __init__(self, day, text, fees):
        self.day = day
        self.text = text
        self.fees = fees


class Reader:
    """Goes along the words of a text."""

    def __init__(self, text):
        self.words = split_words(text)
        self.length = len(text)
        self.at = 0

    def ended(self):
        """Whether all words are taken."""
        return self.at == len(self.words)

    def peek(self):
        """The word that stands here; behind the last one an empty one, as that can stand nowhere either."""
        if self.ended():
            return []
        return self.words[self.at][1]

    def here(self):
        """The place of the word that stands here; the text's length behind the last one."""
        if self.ended():
            return self.length
        return self.words[self.at][0]

    def leave(self):
        """Go on to the word behind this one."""
        self.at = self.at + 1


def take_word(reader, word):
    """Take this very word."""
    if reader.peek() != word:
        raise ScheduleFault(reader.here())
    reader.leave()


def take_name(reader):
    """Take a name, and give it back."""
    word = reader.peek()
    if not is_name(word):
        raise ScheduleFault(reader.here())
    reader.leave()
    return word


def take_number(reader):
    """Take a number, and give it back."""
    word = reader.peek()
    if not is_number(word):
        raise ScheduleFault(reader.here())
    reader.leave()
    return number_of(word)


def take_option(reader, word, most):
    """Take this word with its number, and give that back; 0 where the word is left out."""
    if reader.peek() != spelled(word):
        return 0
    reader.leave()
    place = reader.here()
    number = take_number(reader)
    if number > most:
        raise ScheduleFault(place)
    return number


def take_shared(reader):
    """Take the word shared if it's there, and tell whether it was."""
    if reader.peek() != spelled("shared"):
        return False
    reader.leave()
    return True


def take_fee(reader):
    """Take a fee, and give it back."""
    take_word(reader, spelled("fee"))
    name = take_name(reader)
    amount = take_number(reader)
    above = take_option(reader, "above", MOST_ABOVE)
    late = take_option(reader, "late", MOST_PERCENT)
    small = take_option(reader, "small", MOST_PERCENT)
    shared = take_shared(reader)
    return Fee(name, amount, above, late, small, shared)


def read_fees(text):
    """The fees of a schedule's text, in order; raises ScheduleFault where it has a fault."""
    reader = Reader(text)
    fees = [take_fee(reader)]
    while not reader.ended():
        take_word(reader, [LINE_END])
        fees.append(take_fee(reader))
    return fees


def has_name_twice(fees):
    """Whether two of the fees have one name."""
    names = [tuple(fee.name) for fee in fees]
    return len(set(names)) < len(names)
