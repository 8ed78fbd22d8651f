"""Requirements 1 and 2, over long sessions with failures at many places, beside a plain account of what must hold."""

import random
import unittest

from tickstore import operations
from tickstore.recovery import recovered
from tickstore.session import Session


def random_changes(dice):
    changes = []
    for number in range(dice.choice((0, 1, 1, 2, 16))):
        changes.extend([dice.randrange(0, 64), dice.randrange(0, 2), dice.choice((0, 1, -1, 10 ** 18, -10 ** 18))])
    return changes


def changed(entries, changes):
    after = dict(entries)
    for key, choice, value in zip(changes[::3], changes[1::3], changes[2::3]):
        if choice == 1:
            after[key] = value
        else:
            after.pop(key, None)
    return after


class Walk:
    """A session, and the contents after each tick as they should be."""

    def __init__(self, test, seed):
        self.test = test
        self.dice = random.Random(seed)
        self.session = Session()
        self.history = [{}]
        self.durable = 0

    def tick(self):
        power = self.dice.choice((-1, -1, -1, 100000, self.dice.randrange(0, 60)))
        changes = random_changes(self.dice)
        answer = operations.tick(self.session, power, changes)
        if answer == [-7]:
            return
        if self.session.memory is None or answer[1] == -1:
            self.test.assertTrue(0 <= power < answer[2])
        else:
            self.test.assertEqual(answer[1], len(self.history))
            self.durable = answer[1]
        # A tick that failed may be recovered; it must then have these contents.
        self.history.append(changed(self.history[-1], changes))

    def recover(self):
        answer = operations.recover(self.session)
        if answer == [-3]:
            return
        self.test.assertEqual(answer[0], 0)
        self.test.assertGreaterEqual(answer[2], self.durable)
        self.test.assertLess(answer[2], len(self.history))
        self.durable = answer[2]
        self.history = self.history[:answer[2] + 1]

    def checkpoint(self):
        choice = self.dice.randrange(0, 8)
        if choice == 0:
            operations.begin_checkpoint(self.session)
        elif choice == 1:
            operations.commit_checkpoint(self.session, self.dice.choice((-1, -1, -1, self.dice.randrange(0, 12))))
        else:
            operations.write_checkpoint(self.session, self.dice.choice((1, 5, 40, 100000)))

    def cut(self):
        if self.dice.randrange(0, 10) == 0:
            operations.cut_power(self.session)

    def check(self):
        test = self.test
        test.assertEqual(self.session.durable_tick, self.durable)
        memory = self.session.memory
        if memory is None:
            return
        test.assertEqual((memory.tick_number, memory.entries), (len(self.history) - 1, self.history[-1]))
        self.check_recovery(memory)

    def check_recovery(self, memory):
        """A recovery of the disk as it is would find what is in memory."""
        before = [list(data) for data in self.session.files]
        found = recovered(self.session.files)
        self.test.assertEqual(self.session.files, before)
        self.test.assertEqual(
            (found.memory.tick_number, found.memory.entries, found.memory.side, found.memory.commit_number),
            (memory.tick_number, memory.entries, memory.side, memory.commit_number))
        self.test.assertEqual(found.byte_count, len(self.session.files[2 + memory.side]))


class Requirements(unittest.TestCase):
    def test_random_sessions(self):
        for seed in range(60):
            walk = Walk(self, seed)
            for step in range(200):
                walk.dice.choice((walk.tick, walk.checkpoint, walk.checkpoint, walk.recover, walk.cut))()
                walk.check()

    def test_random_sessions_reach_all_places(self):
        most_commits = 0
        for seed in range(60):
            walk = Walk(self, seed)
            for step in range(200):
                walk.dice.choice((walk.tick, walk.checkpoint, walk.checkpoint, walk.recover, walk.cut))()
            walk.recover()
            most_commits = max(most_commits, walk.session.memory.commit_number)
        self.assertGreaterEqual(most_commits, 5)


class DurableTick(unittest.TestCase):
    def test_what_makes_a_tick_durable(self):
        session = Session()
        operations.tick(session, -1, [])
        operations.tick(session, -1, [])
        self.assertEqual(session.durable_tick, 2)
        operations.tick(session, 3, [])
        self.assertEqual(session.durable_tick, 2)
        operations.recover(session)
        operations.begin_checkpoint(session)
        operations.tick(session, 8, [])
        self.assertEqual(session.durable_tick, 2)
        operations.recover(session)
        self.assertEqual(session.durable_tick, 3)
        operations.cut_power(session)
        self.assertEqual(session.durable_tick, 3)
        operations.reset(session)
        self.assertEqual(session.durable_tick, 0)


if __name__ == "__main__":
    unittest.main()
