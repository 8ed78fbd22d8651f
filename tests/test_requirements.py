"""Requirements 1 and 2, over long sessions with failures at many places, beside a plain account of what must hold."""

import random
import unittest

from tests.calls import (BEGIN, CONTENTS, CUT, LIST_TICKS, RECOVER, RESET, STATUS, ask, commit, corrupt, import_journal,
                         last, preview, read_file, text_bytes, tick, write)
from tickstore import importing, inspection, operations
from tickstore.recovery import recovered
from tickstore.session import Session


def random_changes(dice):
    changes = []
    for number in range(dice.choice((0, 1, 1, 2, 16))):
        changes.extend([dice.randrange(0, 64), dice.randrange(0, 2), dice.choice((0, 1, -1, 10 ** 18, -10 ** 18))])
    return changes


def changed(entries, changes):
    after = dict(entries)
    for key, choice, value in zip(changes[::3], changes[1::3], changes[2::3]):
        if choice == 1:
            after[key] = value
        else:
            after.pop(key, None)
    return after


def random_journal(dice):
    """A text of the old format, and the contents after each of its ticks."""
    text = ""
    history = [{}]
    for number in range(1, dice.choice((1, 2, 4, 9))):
        changes = random_changes(dice)
        tokens = [f"{key}={value}" if choice == 1 else f"{key}!"
                  for key, choice, value in zip(changes[::3], changes[1::3], changes[2::3])]
        text += " ".join([str(number)] + tokens) + "\n"
        history.append(changed(history[-1], changes))
    return text, history


class Walk:
    """A session, and the contents after each tick as they should be."""

    def __init__(self, test, seed):
        self.test = test
        self.dice = random.Random(seed)
        self.session = Session()
        self.history = [{}]
        self.durable = 0
        self.renewals = 0

    def tick(self):
        power = self.dice.choice((-1, -1, -1, 100000, self.dice.randrange(0, 60)))
        changes = random_changes(self.dice)
        answer = operations.tick(self.session, power, changes)
        if answer == [-7]:
            return
        if self.session.memory is None or answer[1] == -1:
            self.test.assertTrue(0 <= power < answer[2])
        else:
            self.test.assertEqual(answer[1], len(self.history))
            self.durable = answer[1]
        # A tick that failed may be recovered; it must then have these contents.
        self.history.append(changed(self.history[-1], changes))

    def recover(self):
        answer = operations.recover(self.session)
        if answer == [-3]:
            return
        self.test.assertEqual(answer[0], 0)
        self.test.assertGreaterEqual(answer[2], self.durable)
        self.test.assertLess(answer[2], len(self.history))
        self.durable = answer[2]
        self.history = self.history[:answer[2] + 1]

    def checkpoint(self):
        choice = self.dice.randrange(0, 8)
        if choice == 0:
            operations.begin_checkpoint(self.session)
        elif choice == 1:
            operations.commit_checkpoint(self.session, self.dice.choice((-1, -1, -1, self.dice.randrange(0, 12))))
        else:
            operations.write_checkpoint(self.session, self.dice.choice((1, 5, 40, 100000)))

    def cut(self):
        if self.dice.randrange(0, 10) == 0:
            operations.cut_power(self.session)

    def renew(self):
        """Corrupts some bytes, or none, and puts in a new disk."""
        if self.dice.randrange(0, 40) != 0:
            return
        for number in range(self.dice.choice((0, 1, 30))):
            inspection.corrupt_byte(self.session, self.dice.randrange(6), self.dice.randrange(12), 9)
        text, history = random_journal(self.dice)
        if self.dice.randrange(0, 3) == 0 or self.session.memory is None:
            history = [{}]
            self.test.assertEqual(operations.reset(self.session), [0])
        else:
            self.test.assertEqual(importing.import_journal(self.session, text_bytes(text)),
                                  [0, len(history) - 1, len(history[-1])])
        self.history = history
        self.durable = len(history) - 1
        self.renewals += 1

    def refused_import(self):
        answer = importing.import_journal(self.session, text_bytes("1 3=5\n2 x\n"))
        self.test.assertEqual(answer, [-2] if self.session.memory is not None else [-7])

    def steps(self):
        return (self.tick, self.checkpoint, self.checkpoint, self.recover, self.cut, self.renew, self.refused_import)

    def check(self):
        test = self.test
        test.assertEqual(self.session.durable_tick, self.durable)
        memory = self.session.memory
        if memory is None:
            test.assertEqual(inspection.status(self.session), [0] * 7 + [self.durable])
            return
        test.assertEqual((memory.tick_number, memory.entries), (len(self.history) - 1, self.history[-1]))
        self.check_recovery(memory)

    def check_recovery(self, memory):
        """A recovery of the disk as it is would find what is in memory."""
        before = [list(data) for data in self.session.files]
        found = recovered(self.session.files)
        self.test.assertEqual(self.session.files, before)
        self.test.assertEqual(
            (found.memory.tick_number, found.memory.entries, found.memory.side, found.memory.commit_number),
            (memory.tick_number, memory.entries, memory.side, memory.commit_number))
        self.test.assertEqual(found.byte_count, len(self.session.files[2 + memory.side]))


class Requirements(unittest.TestCase):
    def test_random_sessions(self):
        for seed in range(60):
            walk = Walk(self, seed)
            for step in range(300):
                walk.dice.choice(walk.steps())()
                walk.check()

    def test_random_sessions_reach_all_places(self):
        most_commits = 0
        most_renewals = 0
        for seed in range(60):
            walk = Walk(self, seed)
            for step in range(300):
                walk.dice.choice(walk.steps())()
            walk.recover()
            most_commits = max(most_commits, walk.session.memory.commit_number)
            most_renewals = max(most_renewals, walk.renewals)
        self.assertGreaterEqual(most_commits, 5)
        self.assertGreaterEqual(most_renewals, 3)


def random_call(dice):
    """A call that corrupts nothing."""
    changes = random_changes(dice)
    return dice.choice((tick(-1, *changes), tick(-1, *changes), tick(dice.randrange(70), *changes), BEGIN, BEGIN,
                        write(dice.randrange(1, 60)), write(100000), write(100000), commit(-1), commit(-1),
                        commit(dice.randrange(11)), RECOVER, RECOVER, CUT if dice.randrange(4) == 0 else STATUS,
                        LIST_TICKS, preview("1 3=5\n"), read_file(6), import_journal("x\n"),
                        import_journal(random_journal(dice)[0]) if dice.randrange(4) == 0 else tick(-1)))


class ThroughTheCalls(unittest.TestCase):
    def test_a_recovery_would_yield_what_is_in_memory(self):
        checkpointing = 0
        for seed in range(400):
            dice = random.Random(seed)
            calls = [random_call(dice) for number in range(dice.randrange(1, 60))]
            if seed % 4 == 0:
                calls[dice.randrange(len(calls)):0] = [corrupt(0, 3, 9), corrupt(2, 9, 9), corrupt(5, 1, 1), RESET]
            before = last(*calls, STATUS)
            if before[1] == 0:
                continue
            has_power, tick_number, side, commit_number, is_checkpointing = before[1:6]
            checkpointing += is_checkpointing
            contents, cut, recovery, status, contents_then = ask(*calls, CONTENTS, CUT, RECOVER, STATUS, CONTENTS)[-5:]
            self.assertEqual((recovery[0], recovery[1], recovery[2], recovery[4]), (0, side, tick_number, 0), calls)
            self.assertEqual(status, [0, 1, tick_number, side, commit_number, 0, 0, tick_number])
            self.assertEqual(contents_then, contents)
        self.assertGreater(checkpointing, 30)

    def test_each_byte_at_which_the_power_may_fail(self):
        for seed in range(40):
            dice = random.Random(seed)
            calls = [random_call(dice) for number in range(20)] + [RECOVER, tick(-1, *random_changes(dice))]
            durable = last(*calls, STATUS)[-1]
            before = last(*calls, CONTENTS)
            changes = random_changes(dice)
            done = ask(*calls, tick(-1, *changes), CONTENTS)[-2:]
            for power in range(done[0][2]):
                torn, status, recovery, contents = ask(*calls, tick(power, *changes), STATUS, RECOVER, CONTENTS)[-4:]
                self.assertEqual(torn, [0, -1, done[0][2]])
                self.assertEqual(status, [0] * 7 + [durable])
                self.assertIn((recovery[2], contents), ((durable, before), (durable + 1, done[1])))


class DurableTick(unittest.TestCase):
    def test_what_makes_a_tick_durable(self):
        session = Session()
        operations.tick(session, -1, [])
        operations.tick(session, -1, [])
        self.assertEqual(session.durable_tick, 2)
        operations.tick(session, 3, [])
        self.assertEqual(session.durable_tick, 2)
        operations.recover(session)
        operations.begin_checkpoint(session)
        operations.tick(session, 8, [])
        self.assertEqual(session.durable_tick, 2)
        operations.recover(session)
        self.assertEqual(session.durable_tick, 3)
        operations.cut_power(session)
        self.assertEqual(session.durable_tick, 3)
        operations.reset(session)
        self.assertEqual(session.durable_tick, 0)


if __name__ == "__main__":
    unittest.main()
