"""How rows of integers stand as bytes on the disk: integers, checksums, frames."""

CHECKSUM_MODULUS = 65521
END_BYTE = 165
LONGEST_PART = 12
# The payload's length, the checksum of that, the payload's checksum, and the end byte.
BYTES_BESIDE_PAYLOAD = 7


def natural_of(number):
    """The natural number to which an integer is mapped."""
    if number >= 0:
        return 2 * number
    return -2 * number - 1


def integer_of(natural):
    """The integer that is mapped to a natural number."""
    if natural % 2 == 0:
        return natural // 2
    return -(natural // 2) - 1


def integer_bytes(number):
    """The bytes of an integer."""
    rest = natural_of(number)
    digits = []
    while rest >= 128:
        digits.append(rest % 128 + 128)
        rest = rest // 128
    digits.append(rest)
    return digits


def row_bytes(row):
    """The bytes of a row of integers."""
    data = []
    for number in row:
        data.extend(integer_bytes(number))
    return data


def part_integer(part):
    """The integer whose bytes are a part, which need not be its shortest form."""
    natural = 0
    for byte in reversed(part):
        natural = natural * 128 + byte % 128
    return integer_of(natural)


def decoded_row(payload):
    """The row whose bytes are the payload, or None if it can't be decoded."""
    row = []
    part = []
    for byte in payload:
        part.append(byte)
        if len(part) > LONGEST_PART:
            return None
        if byte < 128:
            row.append(part_integer(part))
            part = []
    if len(part) > 0:
        return None
    return row


def checksum(data):
    """The checksum of a list of bytes."""
    total = 0
    for position, byte in enumerate(data, start=1):
        total += (byte + 1) * position
    return total % CHECKSUM_MODULUS


def two_bytes(number):
    """A number below 65536 as two bytes."""
    return [number // 256, number % 256]


def number_at(data, start):
    """The number that is written as two bytes from start on."""
    return data[start] * 256 + data[start + 1]


def frame(row):
    """The bytes of the frame of a row."""
    payload = row_bytes(row)
    length = two_bytes(len(payload))
    head = length + two_bytes(checksum(length))
    return head + payload + two_bytes(checksum(payload)) + [END_BYTE]


def frame_at(data, start):
    """The row of the valid frame that begins at start and where the frame ends; None if there is no such frame."""
    if start + BYTES_BESIDE_PAYLOAD > len(data):
        return None
    end = start + BYTES_BESIDE_PAYLOAD + number_at(data, start)
    if end > len(data) or data[end - 1] != END_BYTE:
        return None
    if number_at(data, start + 2) != checksum(data[start:start + 2]):
        return None
    payload = data[start + 4:end - 3]
    if number_at(data, end - 3) != checksum(payload):
        return None
    row = decoded_row(payload)
    if row is None:
        return None
    return (row, end)


def valid_frames(data):
    """For each valid frame of the bytes: its row and where it ends."""
    frames = []
    found = frame_at(data, 0)
    while found is not None:
        frames.append(found)
        found = frame_at(data, found[1])
    return frames


def only_row(data):
    """The row of the one valid frame of which the bytes consist, or None if they don't."""
    found = frame_at(data, 0)
    if found is None or found[1] != len(data):
        return None
    return found[0]
