"""Calls as the tests write them, and their answers one by one."""

from tickstore.disk import answers

BIG = 10 ** 18

RESET = [0]
BEGIN = [2]
CUT = [5]
RECOVER = [6]
CONTENTS = [8]
STATUS = [12]
LIST_TICKS = [14]


def tick(power, *changes):
    return [1, power, len(changes), *changes]


def write(count):
    return [3, count]


def commit(power):
    return [4, power]


def get(key):
    return [7, key]


def read_file(file):
    return [9, file]


def corrupt(file, position, byte):
    return [10, file, position, byte]


def text_bytes(text):
    """The bytes of a text, which may be given as a list of bytes too."""
    return list(text.encode("ascii")) if isinstance(text, str) else list(text)


def import_journal(text):
    data = text_bytes(text)
    return [11, len(data), *data]


def count_frames(data):
    return [13, len(data), *data]


def checksum(data):
    return [15, len(data), *data]


def frame(row):
    return [16, len(row), *row]


def preview(text):
    data = text_bytes(text)
    return [17, len(data), *data]


def overwrite(file, data, start=0):
    """The calls that put these bytes over a file's bytes from start on."""
    return [corrupt(file, start + place, byte) for place, byte in enumerate(data)]


def ask(*calls):
    """The answers of the calls, as one request: a list for each call."""
    given = answers([number for call in calls for number in call])
    apart = []
    place = 0
    while place < len(given):
        end = place + 1 + given[place]
        apart.append(given[place + 1:end])
        place = end
    if place != len(given) or len(apart) != len(calls):
        raise ValueError("the answers do not have their form")
    return apart


def last(*calls):
    """The answer of the last call."""
    return ask(*calls)[-1]
