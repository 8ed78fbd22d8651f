"""The old text format of a journal."""

from tickstore.limits import CHANGES_OF_A_TICK, is_key, is_value
from tickstore.rows import changed_entries

LINE_FEED = 10
BLANK = 32
REMOVAL_SIGN = 33
MINUS_SIGN = 45
DIGIT_ZERO = 48
DIGIT_NINE = 57
EQUALS_SIGN = 61
MOST_DIGITS = 19


def pieces(data, separator):
    """The pieces of the bytes ahead of, between and behind the separators."""
    found = []
    piece = []
    for byte in data:
        if byte == separator:
            found.append(piece)
            piece = []
        else:
            piece.append(byte)
    found.append(piece)
    return found


def ended_lines(text):
    """The lines of the text, without what stands behind the last line feed."""
    return pieces(text, LINE_FEED)[:-1]


def read_natural(digits):
    """The number that the digits tell, or None if they are not of its form."""
    if len(digits) < 1 or len(digits) > MOST_DIGITS:
        return None
    if digits[0] == DIGIT_ZERO and len(digits) > 1:
        return None
    number = 0
    for byte in digits:
        if byte < DIGIT_ZERO or byte > DIGIT_NINE:
            return None
        number = number * 10 + byte - DIGIT_ZERO
    return number


def read_integer(data):
    """The number that the bytes tell, with a sign or without, or None if they are not of its form."""
    if data[:1] != [MINUS_SIGN]:
        return read_natural(data)
    number = read_natural(data[1:])
    if number is None or number == 0:
        return None
    return -number


def read_key(data):
    """The key that the bytes tell, or None."""
    key = read_natural(data)
    if key is None or not is_key(key):
        return None
    return key


def read_value(data):
    """The value that the bytes tell, or None."""
    value = read_integer(data)
    if value is None or not is_value(value):
        return None
    return value


def read_removal(token):
    """The three integers of a removal, or None if the token is none."""
    key = read_key(token[:-1])
    if key is None:
        return None
    return [key, 0, 0]


def read_change(token):
    """The three integers of the change that a token tells, or None."""
    if token[-1:] == [REMOVAL_SIGN]:
        return read_removal(token)
    parts = pieces(token, EQUALS_SIGN)
    if len(parts) != 2:
        return None
    key = read_key(parts[0])
    value = read_value(parts[1])
    if key is None or value is None:
        return None
    return [key, 1, value]


def read_line(line, number):
    """The changes of a line that must be the tick with this number, or None if the line is invalid."""
    tokens = pieces(line, BLANK)
    if read_natural(tokens[0]) != number or len(tokens) - 1 > CHANGES_OF_A_TICK:
        return None
    changes = []
    for token in tokens[1:]:
        change = read_change(token)
        if change is None:
            return None
        changes.extend(change)
    return changes


class OldJournal:
    """The last tick number and the entries after it, as far as the lines are valid; invalid_line is None if all are."""

    def __init__(self, tick_number, entries, invalid_line):
        self.tick_number = tick_number
        self.entries = entries
        self.invalid_line = invalid_line


def read_old_journal(text):
    """What a journal of the old format tells, up to its first invalid line."""
    entries = {}
    tick_number = 0
    for line in ended_lines(text):
        changes = read_line(line, tick_number + 1)
        if changes is None:
            return OldJournal(tick_number, entries, tick_number + 1)
        tick_number += 1
        entries = changed_entries(entries, changes)
    return OldJournal(tick_number, entries, None)
