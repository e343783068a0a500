"""The words of a text: where they stand, and which of them are names or numbers."""

BLANK = 32
LINE_END = 10
FIRST_LETTER = 97
LAST_LETTER = 122
ZERO = 48
NINE = 57
MOST_LETTERS = 12
MOST_DIGITS = 9
KEPT_WORDS = ("fee", "above", "late", "small", "shared")


def spelled(word):
    """The bytes of a word that the document writes in letters."""
    return [ord(sign) for sign in word]


def split_words(text):
    """The words of a text as pairs of place and bytes, in order, with the empty ones."""
    words = []
    begin = 0
    for place, byte in enumerate(text):
        if byte == BLANK or byte == LINE_END:
            words.append((begin, text[begin:place]))
            begin = place + 1
        if byte == LINE_END:
            words.append((place, [LINE_END]))
    words.append((begin, text[begin:]))
    return words


def is_name(word):
    """Whether these bytes are a name."""
    if not 1 <= len(word) <= MOST_LETTERS:
        return False
    if not all([FIRST_LETTER <= byte <= LAST_LETTER for byte in word]):
        return False
    return word not in [spelled(kept) for kept in KEPT_WORDS]


def is_number(word):
    """Whether these bytes are a number."""
    if not 1 <= len(word) <= MOST_DIGITS:
        return False
    if not all([ZERO <= byte <= NINE for byte in word]):
        return False
    return len(word) == 1 or word[0] != ZERO


def number_of(word):
    """The number that these digits write."""
    number = 0
    for byte in word:
        number = number * 10 + byte - ZERO
    return number
