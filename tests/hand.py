"""Bytes made by hand, without the program: integers, frames, and calls by which they come to lie on the disk."""

from tests.calls import import_journal, overwrite, tick


def integer(number, length=0):
    """The bytes of an integer; of more than its shortest form if a greater length is wanted."""
    natural = 2 * number if number >= 0 else -2 * number - 1
    digits = [natural % 128]
    while natural >= 128:
        natural //= 128
        digits.append(natural % 128)
    digits.extend([0] * (length - len(digits)))
    return [digit + 128 for digit in digits[:-1]] + digits[-1:]


def payload_of(row):
    return [byte for number in row for byte in integer(number)]


def sum_of(data):
    return sum((byte + 1) * position for position, byte in enumerate(data, start=1)) % 65521


def framed(payload):
    """The frame round a payload, with right checksums."""
    length = list(divmod(len(payload), 256))
    return length + list(divmod(sum_of(length), 256)) + list(payload) + list(divmod(sum_of(payload), 256)) + [165]


def frame_of(row):
    return framed(payload_of(row))


def value_of(length):
    """A value that has this many bytes, from 1 to 9."""
    return 0 if length == 1 else 64 * 128 ** (length - 2)


def tick_of(length):
    """A tick, of a number below 64, whose payload has this many bytes: 1, or 4 and more."""
    changes = []
    left = length - 1
    while left > 0:
        taken = min(left, 11)
        if 0 < left - taken < 3:
            taken = left - 3
        changes.extend([9, 1, value_of(taken - 2)])
        left -= taken
    return tick(-1, *changes)


def checkpoint_of(payload):
    """The calls by which file 0 is the frame of this payload, of 3 to 11 or 13 to 21 bytes; tick 1 is in memory."""
    # The import's payload has a byte for the tick, one for each key, and values that fill the rest.
    lengths = [len(payload) - 2] if len(payload) < 12 else [9, len(payload) - 12]
    entries = [f"{key}={value_of(length)}" for key, length in enumerate(lengths, start=1)]
    return (import_journal(" ".join(["1"] + entries) + "\n"), *overwrite(0, framed(payload)))
