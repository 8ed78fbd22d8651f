"""The document told a second time, as plainly as Python allows: what each call answers, for the tests to compare."""

import re

BIG = 10 ** 18
LINE = re.compile(rb"([1-9][0-9]{0,18})((?: (?:0|[1-9][0-9]?)(?:!|=(?:0|-?[1-9][0-9]{0,18}))){0,16})\Z")


def encode(row):
    data = bytearray()
    for number in row:
        natural = 2 * number if number >= 0 else -2 * number - 1
        while natural > 127:
            data.append(128 | natural & 127)
            natural >>= 7
        data.append(natural)
    return bytes(data)


def sum_of(data):
    return (sum((byte + 1) * (place + 1) for place, byte in enumerate(data)) % 65521).to_bytes(2, "big")


def frame(row, payload=None):
    payload = encode(row) if payload is None else payload
    size = len(payload).to_bytes(2, "big")
    return size + sum_of(size) + payload + sum_of(payload) + b"\xa5"


def frames(data):
    """The rows of the valid frames and their lengths."""
    found = []
    while len(data) >= 7:
        size = 7 + int.from_bytes(data[:2], "big")
        whole = bytes(data[:size])
        payload = whole[4:-3]
        if len(whole) < size or whole != frame(None, payload):
            break
        parts = re.findall(rb"[\x80-\xff]*[\x00-\x7f]", payload)
        if b"".join(parts) != payload or any(len(part) > 12 for part in parts):
            break
        naturals = [sum((byte & 127) << 7 * place for place, byte in enumerate(part)) for part in parts]
        found.append(([n // 2 if n % 2 == 0 else -(n + 1) // 2 for n in naturals], size))
        data = data[size:]
    return found


def only_row(data):
    found = frames(data)
    return found[0][0] if len(found) == 1 and found[0][1] == len(data) else None


def is_changes(numbers):
    return len(numbers) % 3 == 0 and all(
        0 <= numbers[at] <= 63 and numbers[at + 1] in (0, 1) and abs(numbers[at + 2]) <= BIG
        for at in range(0, len(numbers), 3))


def is_tick(row):
    return row != [] and row[0] >= 1 and is_changes(row[1:])


def is_checkpoint(row):
    return (row is not None and len(row) % 2 == 1 and row[0] >= 0
            and all(0 <= key <= 63 for key in row[1::2]) and all(abs(value) <= BIG for value in row[2::2])
            and sorted(set(row[1::2])) == row[1::2])


def changed(entries, numbers):
    after = dict(entries)
    for key, choice, value in zip(numbers[::3], numbers[1::3], numbers[2::3]):
        after.pop(key, None)
        if choice == 1:
            after[key] = value
    return after


def flat(entries):
    return [number for entry in sorted(entries.items()) for number in entry]


def old_journal(text):
    """The number of the first invalid line, or None; the last tick number; the entries."""
    entries = {}
    number = 0
    for number, line in enumerate(bytes(text).split(b"\n")[:-1], start=1):
        match = LINE.match(line)
        if match is None or int(match[1]) != number:
            return number, None, None
        for token in match[2].decode().split():
            key, value = (token[:-1], "0") if token[-1] == "!" else token.split("=")
            if int(key) > 63 or abs(int(value)) > BIG:
                return number, None, None
            entries = changed(entries, [int(key), int(token[-1] != "!"), int(value)])
    return None, number, entries


class Model:
    def __init__(self):
        self.renew(0, {})

    def renew(self, tick, entries):
        self.files = [bytearray() for number in range(6)]
        self.files[0][:] = frame([tick] + flat(entries))
        self.files[5][:] = frame([1, 0])
        self.power = True
        self.durable = self.tick = tick
        self.entries, self.side, self.commit, self.pending = entries, 0, 1, None

    def answer(self, call):
        number, *given = call
        if number in (1, 11, 13, 15, 16, 17):
            at = 1 if number == 1 else 0
            given = given[:at] + [given[at + 1:]]
        wrong = {1: lambda power, changes: not -1 <= power <= 100000 or len(changes) > 48 or not is_changes(changes),
                 3: lambda count: not 1 <= count <= 100000, 4: lambda power: not -1 <= power <= 100000,
                 7: lambda key: key < 0, 9: lambda file: not 0 <= file <= 5,
                 10: lambda file, position, byte: not (0 <= file <= 5 and 0 <= byte <= 255),
                 16: lambda row: len(row) > 40}
        if number in wrong and wrong[number](*given):
            return [-1]
        if not self.power and number in (1, 2, 3, 4, 5, 7, 8, 11, 14):
            return [-7]
        fields = getattr(self, f"operation_{number}")(*given)
        return [fields] if isinstance(fields, int) else [0] + list(fields)

    def operation_0(self):
        self.renew(0, {})
        return []

    def operation_1(self, power, changes):
        if self.tick + 1 > BIG:
            return -5
        row = [self.tick + 1] + changes
        row[3::3] = [value if choice else 0 for choice, value in zip(row[2::3], row[3::3])]
        journals = [2 + self.side] + ([] if self.pending is None else [3 - self.side])
        todo = [(journal, byte) for journal in journals for byte in frame(row)]
        for journal, byte in todo if power == -1 else todo[:power]:
            self.files[journal].append(byte)
        if power != -1 and power < len(todo):
            self.power = False
            return [-1, len(todo)]
        self.tick = self.durable = row[0]
        self.entries = changed(self.entries, changes)
        return [self.tick, len(todo)]

    def operation_2(self):
        if self.pending is not None:
            return -3
        self.files[1 - self.side].clear()
        self.files[3 - self.side].clear()
        self.pending = frame([self.tick] + flat(self.entries))
        return [len(self.pending)]

    def operation_3(self, count):
        if self.pending is None:
            return -3
        self.files[1 - self.side] += self.pending[:count]
        self.pending = self.pending[count:]
        return [len(self.pending)]

    def operation_4(self, power):
        if self.pending is None or self.pending:
            return -3
        if self.commit + 1 > BIG:
            return -5
        record = frame([self.commit + 1, 1 - self.side])
        power = len(record) if power == -1 else power
        self.files[4 + (self.commit + 1) % 2][:] = record[:power]
        if power < len(record):
            self.power = False
            return [-1, len(record)]
        self.side, self.commit, self.pending = 1 - self.side, self.commit + 1, None
        return [self.side, self.commit]

    def operation_5(self):
        self.power = False
        return []

    def operation_6(self):
        if self.power:
            return -3
        rows = [(only_row(self.files[file]), 5 - file) for file in (4, 5)]
        commits = [(row[0], even, row[1]) for row, even in rows
                   if row is not None and len(row) == 2 and row[0] >= 1 and row[1] in (0, 1)]
        for number, even, side in sorted(commits, reverse=True):
            checkpoint = only_row(self.files[side])
            if is_checkpoint(checkpoint):
                return self.restart(number, side, checkpoint)
        return -6

    def restart(self, number, side, checkpoint):
        self.power, self.commit, self.side, self.pending = True, number, side, None
        self.tick, self.entries = checkpoint[0], dict(zip(checkpoint[1::2], checkpoint[2::2]))
        count = kept = 0
        for row, size in frames(self.files[2 + side]):
            if not is_tick(row) or row[0] != self.tick + 1:
                break
            self.tick, self.entries = row[0], changed(self.entries, row[1:])
            count, kept = count + 1, kept + size
        dropped = len(self.files[2 + side]) - kept
        del self.files[2 + side][kept:]
        self.durable = self.tick
        return [side, self.tick, count, dropped]

    def operation_7(self, key):
        return [self.entries[key]] if key in self.entries else -4

    def operation_8(self):
        return [self.tick] + flat(self.entries)

    def operation_9(self, file):
        return list(self.files[file])

    def operation_10(self, file, position, byte):
        if not 0 <= position < len(self.files[file]):
            return -4
        self.files[file][position] = byte
        return []

    def operation_11(self, text):
        invalid, tick, entries = old_journal(text)
        if invalid is not None:
            return -2
        self.renew(tick, entries)
        return [tick, len(entries)]

    def operation_12(self):
        if not self.power:
            return [0] * 6 + [self.durable]
        return [1, self.tick, self.side, self.commit, int(self.pending is not None), len(self.pending or b""),
                self.durable]

    def operation_13(self, data):
        found = frames(bytes(data))
        return [len(found), sum(size for row, size in found)]

    def operation_14(self):
        return [number for row, size in frames(self.files[2 + self.side]) if is_tick(row)
                for number in (row[0], len(row[1:]) // 3)]

    def operation_15(self, data):
        return [int.from_bytes(sum_of(data), "big")]

    def operation_16(self, row):
        return list(frame(row))

    def operation_17(self, text):
        invalid, tick, entries = old_journal(text)
        return [0, invalid] if invalid is not None else [1, tick] + flat(entries)
