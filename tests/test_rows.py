"""Contents and ticks; what a valid checkpoint and a valid commit record are."""

import unittest

from tickstore.frames import frame
from tickstore.rows import (are_changes, changed_entries, checkpoint_row, is_tick_row, read_checkpoint,
                            read_commit, tick_row)

BIG = 10 ** 18


class Changes(unittest.TestCase):
    def test_what_changes_are(self):
        for numbers in ([], [0, 1, 5], [63, 0, 7], [0, 1, BIG], [0, 1, -BIG], [0, 0, BIG], [1, 1, 1] * 20):
            self.assertTrue(are_changes(numbers), numbers)

    def test_what_changes_are_not(self):
        for numbers in ([1], [1, 1], [1, 1, 1, 1], [-1, 1, 0], [64, 1, 0], [64, 0, 0], [0, 2, 0], [0, -1, 0],
                        [0, 1, BIG + 1], [0, 1, -BIG - 1], [0, 0, BIG + 1], [1, 1, 1, 64, 1, 1]):
            self.assertFalse(are_changes(numbers), numbers)

    def test_changes_are_made_in_order_on_a_copy(self):
        entries = {1: 10, 2: 20}
        self.assertEqual(changed_entries(entries, [1, 1, 11, 1, 0, 99, 1, 1, 12, 3, 0, 0, 2, 0, 5]), {1: 12})
        self.assertEqual(entries, {1: 10, 2: 20})


class Ticks(unittest.TestCase):
    def test_the_row_of_a_tick(self):
        self.assertEqual(tick_row(7, []), [7])
        self.assertEqual(tick_row(7, [3, 1, 5, 4, 0, 9, 3, 0, 0]), [7, 3, 1, 5, 4, 0, 0, 3, 0, 0])

    def test_which_rows_are_ticks(self):
        for row in ([1], [BIG], [1, 3, 0, 9], [2] + [3, 1, 5] * 17):
            self.assertTrue(is_tick_row(row), row)
        for row in ([], [0], [-1], [0, 3, 1, 5], [1, 3], [1, 3, 1], [1, 64, 1, 5], [1, 3, 2, 5]):
            self.assertFalse(is_tick_row(row), row)


class Checkpoints(unittest.TestCase):
    def test_the_row_of_a_checkpoint(self):
        self.assertEqual(checkpoint_row(0, {}), [0])
        self.assertEqual(checkpoint_row(9, {63: 1, 0: -2, 5: 3}), [9, 0, -2, 5, 3, 63, 1])

    def test_valid_checkpoints(self):
        for row in ([0], [BIG], [BIG + 1], [3, 0, BIG, 1, -BIG, 63, 0]):
            self.assertEqual(read_checkpoint(frame(row)), row)

    def test_wrong_checkpoints(self):
        for row in ([], [-1], [0, 1], [0, -1, 5], [0, 64, 5], [0, 1, BIG + 1], [0, 1, -BIG - 1], [0, 2, 5, 1, 5],
                    [0, 2, 5, 2, 5], [0, 1, 5, 2]):
            self.assertIsNone(read_checkpoint(frame(row)), row)
        self.assertIsNone(read_checkpoint([]))
        self.assertIsNone(read_checkpoint(frame([0]) + [0]))
        self.assertIsNone(read_checkpoint(frame([0]) + frame([1])))
        self.assertIsNone(read_checkpoint(frame([0])[:-1]))


class Commits(unittest.TestCase):
    def test_valid_commit_records(self):
        for row in ([1, 0], [1, 1], [BIG, 0]):
            self.assertEqual(read_commit(frame(row)), row)

    def test_wrong_commit_records(self):
        for row in ([], [1], [0, 0], [-1, 1], [1, 2], [1, -1], [1, 0, 0]):
            self.assertIsNone(read_commit(frame(row)), row)
        self.assertIsNone(read_commit([]))
        self.assertIsNone(read_commit(frame([1, 0]) + [0]))
        self.assertIsNone(read_commit(frame([1, 0]) + frame([2, 1])))
        self.assertIsNone(read_commit(frame([1, 0])[:-1]))


if __name__ == "__main__":
    unittest.main()
