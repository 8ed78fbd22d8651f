"""Random requests over all calls, corruption among them, beside a second telling of the document."""

import random
import unittest

from tests import calls as make
from tests.calls import BIG, ask
from tests.model import Model, encode, frame

NUMBERS = (0, 1, 2, 3, 5, 63, 64, -1, -2, -64, -65, 100, 100000, 100001, BIG, -BIG, BIG - 1)
LOOKS = [make.read_file(file) for file in range(6)] + [make.STATUS, make.CONTENTS]


class Requests:
    """Random calls, made beside the model so that many of them are not refused."""

    def __init__(self, seed):
        self.dice = random.Random(seed)
        self.model = Model()
        self.calls = []
        self.answers = []
        # Some requests are never corrupted, some often.
        self.corruption = self.dice.choice((0, 1, 4))

    def add(self, call):
        self.calls.append(call)
        self.answers.append(self.model.answer(call))

    def number(self):
        return self.dice.choice(NUMBERS)

    def changes(self):
        dice = self.dice
        changes = [number for place in range(dice.choice((0, 1, 1, 2, 3, 16)))
                   for number in (dice.randrange(8), dice.randrange(2), dice.choice((0, 1, -1, 64, -65, BIG, -BIG)))]
        if dice.randrange(20) == 0:
            changes = (changes + [self.number()] * dice.choice((1, 2, 3, 49)))[:60]
        return changes

    def text(self):
        dice = self.dice
        lines = []
        for number in range(1, dice.choice((1, 2, 3, 5, 12))):
            tokens = [f"{dice.randrange(64)}" + dice.choice(("!", f"={self.number()}", "=7", "=-8"))
                      for place in range(dice.choice((0, 1, 2, 16)))]
            lines.append(" ".join([str(number)] + tokens) + "\n")
        data = make.text_bytes("".join(lines))
        for wrong in range(dice.choice((0, 0, 0, 1, 2))):
            place = dice.randrange(len(data) + 1)
            data[place:place + dice.randrange(2)] = [dice.choice(make.text_bytes("0159 !=-\n") + [dice.randrange(256)])]
        return data

    def data(self):
        dice = self.dice
        data = [byte for place in range(dice.randrange(5)) for byte in frame([self.number()] * dice.randrange(4))]
        if dice.randrange(2) and data:
            data[dice.randrange(len(data))] = dice.randrange(256)
        return data + [dice.randrange(256)] * dice.randrange(3)

    def store_call(self):
        dice = self.dice
        count = dice.choice((1, 4, 7, 20, 99, 99, 100000))
        power = dice.choice((-1, -1, -1, dice.randrange(100), dice.randrange(12), self.number()))
        return dice.choice((make.tick(power, *self.changes()), make.tick(-1, *self.changes()), make.tick(-1),
                            make.BEGIN, make.BEGIN, make.write(count), make.write(99999), make.write(self.number()),
                            make.commit(-1), make.commit(-1), make.commit(dice.choice((-2, 0, 5, 8, 9, 10))), make.CUT,
                            make.RECOVER, make.RECOVER, make.RECOVER, make.get(dice.randrange(8)),
                            make.get(self.number()), make.CONTENTS))

    def looking_call(self):
        dice = self.dice
        return dice.choice((make.STATUS, make.STATUS, make.LIST_TICKS, make.LIST_TICKS, make.count_frames(self.data()),
                            make.checksum(self.data()), make.frame([self.number()] * dice.choice((0, 1, 3, 40, 41))),
                            make.preview(self.text()), make.read_file(dice.randrange(-1, 7)), make.CONTENTS))

    def corrupt_a_byte(self):
        file = self.dice.randrange(6)
        self.add(make.corrupt(file, self.dice.randrange(-1, len(self.model.files[file]) + 1), self.dice.randrange(256)))

    def rewrite_a_frame(self):
        """Puts another frame of the same length over a frame, with right checksums."""
        dice = self.dice
        file = dice.choice((0, 1, 2, 2, 3, 3, 4, 5))
        data = self.model.files[file]
        if len(data) < 8:
            return
        start = dice.choice((0, len(data) - 11)) if len(data) > 11 else 0
        size = int.from_bytes(data[start:start + 2], "big")
        if size > 40 or start + size + 7 > len(data):
            return
        payload = bytearray(data[start + 4:start + 4 + size])
        for place in range(dice.choice((1, 1, 2)) if payload else 0):
            payload[dice.randrange(size)] = dice.choice((0, 1, 2, 4, 6, 8, 126, 127, 128, 129, 255))
        if dice.randrange(3) == 0:
            payload[:] = (encode([self.model.tick + dice.randrange(3)]) + bytes(payload))[:size]
        for call in make.overwrite(file, frame(None, bytes(payload)), start):
            self.add(call)

    def step(self):
        choice = self.dice.randrange(24)
        if choice < self.corruption:
            self.dice.choice((self.corrupt_a_byte, self.rewrite_a_frame))()
        elif choice < 20:
            self.add(self.store_call())
        elif choice < 23:
            self.add(self.looking_call())
        elif self.dice.randrange(3) == 0:
            self.add(self.dice.choice((make.RESET, make.import_journal(self.text()))))

    def run(self):
        while len(self.calls) < 140:
            self.step()
        return self.calls, self.answers


class BesideTheModel(unittest.TestCase):
    def test_random_requests(self):
        for seed in range(500):
            calls, expected = Requests(seed).run()
            given = ask(*calls, *LOOKS)
            for place, answer in enumerate(expected):
                self.assertEqual(given[place], answer, (seed, place, calls[place]))

    def test_the_requests_reach_all_answers(self):
        seen = {}
        for seed in range(500):
            for call, answer in zip(*Requests(seed).run()):
                key = (call[0], answer[0] if answer[0] < 0 or len(answer) < 2 or answer[1] != -1 else "torn")
                seen[key] = seen.get(key, 0) + 1
        wanted = [(0, 0), (1, 0), (1, "torn"), (1, -1), (1, -7), (2, 0), (2, -7), (2, -3), (3, 0), (3, -1), (3, -7),
                  (3, -3), (4, 0), (4, "torn"), (4, -1), (4, -7), (4, -3), (5, 0), (5, -7), (6, 0), (6, -3), (6, -6),
                  (7, 0), (7, -1), (7, -7), (7, -4), (8, 0), (8, -7), (9, 0), (9, -1), (10, 0), (10, -4), (11, 0),
                  (11, -7), (11, -2), (12, 0), (13, 0), (14, 0), (14, -7), (15, 0), (16, 0), (16, -1), (17, 0)]
        self.assertEqual([key for key in wanted if seen.get(key, 0) < 10], [])

    def test_a_refusal_changes_nothing(self):
        for seed in range(60):
            calls, expected = Requests(seed).run()
            kept = [call for call, answer in zip(calls, expected) if answer[0] == 0]
            answers = [answer for answer in expected if answer[0] == 0]
            given = ask(*kept, *LOOKS)
            self.assertEqual(given[:len(kept)], answers, seed)
            self.assertEqual(given[len(kept):], ask(*calls, *LOOKS)[len(calls):], seed)


if __name__ == "__main__":
    unittest.main()
