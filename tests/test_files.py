"""The bytes of the six files after each operation, with enough power and with too little."""

import unittest

from tickstore import operations
from tickstore.frames import frame
from tickstore.session import Session

NEW = [frame([0]), [], [], [], [], frame([1, 0])]
ONE = frame([1, 3, 1, 5])
TWO = frame([2, 4, 1, 6])
CHECKPOINT = frame([1, 3, 5])


def begun(*written):
    """Tick 1, then a checkpoint that is being written, with pieces of these lengths."""
    session = Session()
    operations.tick(session, -1, [3, 1, 5])
    operations.begin_checkpoint(session)
    for count in written:
        operations.write_checkpoint(session, count)
    return session


class Files(unittest.TestCase):
    def test_a_tick(self):
        for power in range(-1, 13):
            session = Session()
            operations.tick(session, power, [3, 1, 5])
            written = ONE if power == -1 else ONE[:power]
            self.assertEqual(session.files, [NEW[0], [], written, [], [], NEW[5]], power)
            self.assertEqual(session.memory is None, 0 <= power < 11, power)

    def test_a_removal_is_written_with_0(self):
        session = Session()
        operations.tick(session, -1, [3, 0, 9])
        self.assertEqual(session.files[2], frame([1, 3, 0, 0]))

    def test_a_tick_while_a_checkpoint_is_being_written(self):
        for power in range(-1, 25):
            session = begun(4)
            operations.tick(session, power, [4, 1, 6])
            written = TWO + TWO if power == -1 else (TWO + TWO)[:power]
            self.assertEqual(session.files, [NEW[0], CHECKPOINT[:4], ONE + written[:11], written[11:], [], NEW[5]])
            self.assertEqual(session.memory is None, 0 <= power < 22, power)

    def test_pieces_of_a_checkpoint(self):
        for counts, length in (((), 0), ((1,), 1), ((4, 5), 9), ((4, 6), 10), ((11,), 10), ((4, 100000, 1), 10)):
            session = begun(*counts)
            self.assertEqual(session.files, [NEW[0], CHECKPOINT[:length], ONE, [], [], NEW[5]])
            self.assertEqual(session.memory.pending, CHECKPOINT[length:])

    def test_commit_records(self):
        for power in range(-1, 11):
            session = begun(10)
            operations.commit_checkpoint(session, power)
            record = frame([2, 1]) if power == -1 else frame([2, 1])[:power]
            self.assertEqual(session.files, [NEW[0], CHECKPOINT, ONE, [], record, NEW[5]])

    def test_a_commit_record_replaces_the_older_one(self):
        for power in range(-1, 11):
            session = begun(10)
            operations.commit_checkpoint(session, -1)
            operations.begin_checkpoint(session)
            self.assertEqual(session.files, [[], CHECKPOINT, [], [], frame([2, 1]), NEW[5]])
            operations.write_checkpoint(session, 10)
            operations.commit_checkpoint(session, power)
            record = frame([3, 0]) if power == -1 else frame([3, 0])[:power]
            self.assertEqual(session.files, [CHECKPOINT, CHECKPOINT, [], [], frame([2, 1]), record])

    def test_recover_cuts_the_journal(self):
        for power in range(11):
            session = Session()
            operations.tick(session, -1, [3, 1, 5])
            operations.tick(session, power, [4, 1, 6])
            operations.recover(session)
            self.assertEqual(session.files, [NEW[0], [], ONE, [], [], NEW[5]])

    def test_refused_operations_change_nothing(self):
        session = begun(4)
        before = [list(data) for data in session.files]
        operations.tick(session, -2, [4, 1, 6])
        operations.tick(session, -1, [64, 1, 6])
        operations.begin_checkpoint(session)
        operations.write_checkpoint(session, 0)
        operations.commit_checkpoint(session, -1)
        operations.recover(session)
        self.assertEqual(session.memory.pending, CHECKPOINT[4:])
        operations.cut_power(session)
        operations.tick(session, -1, [4, 1, 6])
        operations.begin_checkpoint(session)
        operations.write_checkpoint(session, 3)
        operations.commit_checkpoint(session, -1)
        operations.cut_power(session)
        self.assertEqual(session.files, before)

    def test_reset(self):
        session = begun(10)
        operations.commit_checkpoint(session, -1)
        self.assertEqual(operations.reset(session), [0])
        self.assertEqual(session.files, NEW)
        self.assertIsNone(session.memory.pending)
        self.assertEqual((session.memory.side, session.memory.commit_number), (0, 1))


if __name__ == "__main__":
    unittest.main()
