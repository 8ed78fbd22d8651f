"""The calls as they are handed in, and the answers as they are given back."""

from tickstore.importing import import_journal, preview_import
from tickstore.inspection import corrupt_byte, count_frames, list_ticks, read_file, show_checksum, show_frame, status
from tickstore.operations import begin_checkpoint, commit_checkpoint, contents, cut_power, get_value
from tickstore.operations import recover, reset, tick, write_checkpoint
from tickstore.session import Session

LAST_STORE_OPERATION = 8
LAST_OPERATION = 17


class UnknownCall(ValueError):
    """A call whose number is not that of an operation."""


class Reader:
    """Takes the numbers of the calls, one behind another, and leaves their list as it is."""

    def __init__(self, calls):
        self.calls = calls
        self.place = 0

    def has_more(self):
        """Whether there is another call."""
        return self.place < len(self.calls)

    def take_number(self):
        """The number that stands here."""
        number = self.calls[self.place]
        self.place += 1
        return number

    def take_row(self):
        """The row that stands here behind its length."""
        length = self.take_number()
        start = self.place
        self.place = start + length
        return self.calls[start:self.place]


def store_answer(session, operation, reader):
    """The answer of a call of the store itself, operations 0 to 8."""
    if operation == 0:
        return reset(session)
    if operation == 1:
        power = reader.take_number()
        return tick(session, power, reader.take_row())
    if operation == 2:
        return begin_checkpoint(session)
    if operation == 3:
        return write_checkpoint(session, reader.take_number())
    if operation == 4:
        return commit_checkpoint(session, reader.take_number())
    if operation == 5:
        return cut_power(session)
    if operation == 6:
        return recover(session)
    if operation == 7:
        return get_value(session, reader.take_number())
    return contents(session)


def corruption_answer(session, reader):
    """The answer of the call of operation 10 whose arguments stand here."""
    file_number = reader.take_number()
    position = reader.take_number()
    return corrupt_byte(session, file_number, position, reader.take_number())


def inspection_answer(session, operation, reader):
    """The answer of a call that looks at the store from without, operations 9 to 17."""
    if operation == 9:
        return read_file(session, reader.take_number())
    if operation == 10:
        return corruption_answer(session, reader)
    if operation == 11:
        return import_journal(session, reader.take_row())
    if operation == 12:
        return status(session)
    if operation == 13:
        return count_frames(reader.take_row())
    if operation == 14:
        return list_ticks(session)
    if operation == 15:
        return show_checksum(reader.take_row())
    if operation == 16:
        return show_frame(reader.take_row())
    return preview_import(reader.take_row())


def call_answer(session, reader):
    """The answer of the call that stands here."""
    operation = reader.take_number()
    if 0 <= operation <= LAST_STORE_OPERATION:
        return store_answer(session, operation, reader)
    if LAST_STORE_OPERATION < operation <= LAST_OPERATION:
        return inspection_answer(session, operation, reader)
    raise UnknownCall(f"no operation has the number {operation}")


def answers(calls):
    """For each call, in order, how many numbers are answered, then these."""
    session = Session()
    reader = Reader(calls)
    given = []
    while reader.has_more():
        answer = call_answer(session, reader)
        given.append(len(answer))
        given.extend(answer)
    return given
