"""The desk: calls are handed in here, and answered."""

from feebooks.asking import ask
from feebooks.forms import FIRST_ASKING, bytes_stand, numbers_stand, split_calls
from feebooks.record import Record
from feebooks.telling import tell


def answer_to(record, call):
    """The numbers that are answered to one call."""
    if not numbers_stand(call, len(record.weights)):
        return [-3]
    if not bytes_stand(call):
        return [-1]
    if call.number < FIRST_ASKING:
        return [tell(record, call)]
    return ask(record, call)


def answers(calls):
    """The answers to calls on a new record, each with how many numbers it has before it."""
    record = Record()
    given = []
    for call in split_calls(calls):
        answer = answer_to(record, call)
        given.append(len(answer))
        given.extend(answer)
    return given
