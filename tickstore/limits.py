"""The ranges that the words give, and the codes of the refusals."""

LARGEST = 1000000000000000000
LARGEST_KEY = 63
LARGEST_LIMIT = 100000
LARGEST_FILE = 5
LARGEST_BYTE = 255
LONGEST_ROW = 40
CHANGES_OF_A_TICK = 16

UNLIMITED = -1

BAD_ARGUMENT = -1
INVALID_LINE = -2
NOT_NOW = -3
NOT_THERE = -4
TOO_LARGE = -5
NOTHING_TO_RECOVER = -6
NO_POWER = -7


def is_key(number):
    """Whether the contents may have this key."""
    return 0 <= number <= LARGEST_KEY


def is_value(number):
    """Whether a key may have this value."""
    return -LARGEST <= number <= LARGEST


def is_power(number):
    """Whether an operation may be given this power."""
    return UNLIMITED <= number <= LARGEST_LIMIT


def is_count(number):
    """Whether this is a number of bytes that may be asked for."""
    return 1 <= number <= LARGEST_LIMIT


def is_file(number):
    """Whether the disk has a file with this number."""
    return 0 <= number <= LARGEST_FILE


def is_byte(number):
    """Whether this is a byte."""
    return 0 <= number <= LARGEST_BYTE
