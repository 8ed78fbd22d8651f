"""The calls as they are handed in, and the answers as they are given back."""

from tickstore.operations import begin_checkpoint, commit_checkpoint, contents, cut_power, get_value
from tickstore.operations import recover, reset, tick, write_checkpoint
from tickstore.session import Session


class UnknownCall(ValueError):
    """A call whose number is not that of an operation."""


class Reader:
    """Takes the numbers of the calls, one behind another, and leaves their list as it is."""

    def __init__(self, calls):
        self.calls = calls
        self.place = 0

    def has_more(self):
        """Whether there is another call."""
        return self.place < len(self.calls)

    def take_number(self):
        """The number that stands here."""
        number = self.calls[self.place]
        self.place += 1
        return number

    def take_row(self):
        """The row that stands here behind its length."""
        length = self.take_number()
        start = self.place
        self.place = start + length
        return self.calls[start:self.place]


def call_answer(session, reader):
    """The answer of the call that stands here."""
    operation = reader.take_number()
    if operation == 0:
        return reset(session)
    if operation == 1:
        power = reader.take_number()
        return tick(session, power, reader.take_row())
    if operation == 2:
        return begin_checkpoint(session)
    if operation == 3:
        return write_checkpoint(session, reader.take_number())
    if operation == 4:
        return commit_checkpoint(session, reader.take_number())
    if operation == 5:
        return cut_power(session)
    if operation == 6:
        return recover(session)
    if operation == 7:
        return get_value(session, reader.take_number())
    if operation == 8:
        return contents(session)
    raise UnknownCall(f"no operation has the number {operation}")


def answers(calls):
    """For each call, in order, how many numbers are answered, then these."""
    session = Session()
    reader = Reader(calls)
    given = []
    while reader.has_more():
        answer = call_answer(session, reader)
        given.append(len(answer))
        given.extend(answer)
    return given
