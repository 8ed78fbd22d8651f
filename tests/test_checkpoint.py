"""Operations 2 to 4: checkpoints in pieces, commit records, power failures at each place."""

import unittest

from tests.calls import BEGIN, BIG, CONTENTS, CUT, RECOVER, ask, commit, get, last, tick, write

OUTSIDE = (-2, 100001, -BIG, BIG)
FIRST = tick(-1, 3, 1, 5)
# A whole checkpoint, of 8 bytes on a new disk and of 10 bytes after FIRST.
WHOLE = (BEGIN, write(100000), commit(-1))


class Pieces(unittest.TestCase):
    def test_pending_bytes(self):
        self.assertEqual(ask(BEGIN, tick(-1, 3, 1, 5), CONTENTS), [[0, 8], [0, 1, 22], [0, 1, 3, 5]])
        self.assertEqual(last(FIRST, tick(-1, 3, 1, BIG, 63, 1, -BIG), BEGIN), [0, 28])

    def test_byte_by_byte(self):
        given = ask(FIRST, BEGIN, *[write(1)] * 12, commit(-1))
        self.assertEqual(given[2:], [[0, left] for left in range(9, -1, -1)] + [[0, 0], [0, 0], [0, 1, 2]])

    def test_counts(self):
        for count, left in ((1, 9), (9, 1), (10, 0), (11, 0), (100000, 0)):
            self.assertEqual(ask(FIRST, BEGIN, write(count))[2], [0, left])
        for count in (0, -1, 100001, BIG, -BIG):
            self.assertEqual(ask(FIRST, BEGIN, write(count), write(1))[2:], [[-1], [0, 9]])

    def test_ticks_between(self):
        given = ask(FIRST, BEGIN, tick(-1, 4, 1, 6), write(3), tick(-1, 3, 0, 0), write(3), tick(-1, 5, 1, 7),
                    write(4), tick(-1, 6, 1, 8), commit(-1), tick(-1, 7, 1, 9), CONTENTS, CUT, RECOVER, CONTENTS)
        after = [0, 6, 4, 6, 5, 7, 6, 8, 7, 9]
        self.assertEqual(given[1:], [[0, 10], [0, 2, 22], [0, 7], [0, 3, 22], [0, 4], [0, 4, 22], [0, 0], [0, 5, 22],
                                     [0, 1, 2], [0, 6, 11], after, [0], [0, 1, 6, 5, 0], after])

    def test_the_checkpoint_holds_the_contents_at_its_beginning(self):
        given = ask(FIRST, BEGIN, tick(-1, 3, 1, 6), write(99), commit(-1), CUT, RECOVER, get(3))
        self.assertEqual(given[-2:], [[0, 1, 2, 1, 0], [0, 6]])

    def test_one_checkpoint_behind_another(self):
        calls = []
        for number in range(6):
            calls.extend([tick(-1, number, 1, number), *WHOLE])
        given = ask(*calls, CUT, RECOVER, CONTENTS)
        self.assertEqual(given[3:-3:4], [[0, (number + 1) % 2, number + 2] for number in range(6)])
        self.assertEqual(given[-2:], [[0, 0, 6, 0, 0], [0, 6] + [number // 2 for number in range(12)]])

    def test_the_files_of_the_other_side_are_emptied(self):
        # Side 0 holds the checkpoint and the journal of earlier ticks when it is written again.
        calls = (FIRST, tick(-1), *WHOLE, tick(-1, 4, 1, 6), *WHOLE, tick(-1, 5, 1, 7), CUT, RECOVER, CONTENTS)
        self.assertEqual(ask(*calls)[-2:], [[0, 0, 4, 1, 0], [0, 4, 3, 5, 4, 6, 5, 7]])

    def test_a_checkpoint_given_up_and_begun_again(self):
        for written in ((), (write(4),), (write(99),)):
            calls = (FIRST, BEGIN, tick(-1, 4, 1, 6), *written, CUT, RECOVER, *WHOLE, CUT, RECOVER, CONTENTS)
            self.assertEqual(ask(*calls)[-3:], [[0], [0, 1, 2, 0, 0], [0, 2, 3, 5, 4, 6]])

    def test_all_keys(self):
        ticks = [tick(-1, *[number for key in range(start, start + 16) for number in (key, 1, BIG)])
                 for start in (48, 0, 32, 16)]
        given = ask(*ticks, BEGIN, write(300), write(300), write(300), commit(-1), CUT, RECOVER, CONTENTS)
        # The number, 64 keys and 64 values of 9 bytes, and 7 bytes round them.
        self.assertEqual(given[4:8], [[0, 648], [0, 348], [0, 48], [0, 0]])
        self.assertEqual(given[-2:], [[0, 1, 4, 0, 0], [0, 4] + [number for key in range(64) for number in (key, BIG)]])


class NotNow(unittest.TestCase):
    def test_begin_while_one_is_being_written(self):
        self.assertEqual(ask(FIRST, BEGIN, BEGIN, write(4), BEGIN, write(6), BEGIN, commit(-1), BEGIN)[1:],
                         [[0, 10], [-3], [0, 6], [-3], [0, 0], [-3], [0, 1, 2], [0, 10]])

    def test_a_refused_begin_changes_nothing(self):
        given = ask(FIRST, BEGIN, tick(-1, 4, 1, 6), write(4), BEGIN, write(6), commit(-1), CUT, RECOVER, CONTENTS)
        self.assertEqual(given[-2:], [[0, 1, 2, 1, 0], [0, 2, 3, 5, 4, 6]])

    def test_write_while_none_is(self):
        self.assertEqual(ask(write(1), write(100000), write(0), write(100001)), [[-3], [-3], [-1], [-1]])
        self.assertEqual(ask(*WHOLE, write(1))[-1], [-3])
        self.assertEqual(ask(BEGIN, CUT, RECOVER, write(1))[-1], [-3])

    def test_commit_while_none_is(self):
        self.assertEqual(ask(commit(-1), commit(0), commit(-2), commit(100001)), [[-3], [-3], [-1], [-1]])
        self.assertEqual(ask(*WHOLE, commit(-1))[-1], [-3])
        self.assertEqual(ask(BEGIN, write(99), CUT, RECOVER, commit(-1))[-1], [-3])

    def test_commit_while_bytes_are_pending(self):
        given = ask(FIRST, BEGIN, commit(-1), commit(0), write(9), commit(-1), tick(-1), write(1), commit(-1))
        self.assertEqual(given[2:], [[-3], [-3], [0, 1], [-3], [0, 2, 16], [0, 0], [0, 1, 2]])

    def test_a_refused_commit_changes_nothing(self):
        given = ask(FIRST, BEGIN, write(9), commit(-1), CONTENTS, CUT, RECOVER, CONTENTS)
        self.assertEqual(given[3:], [[-3], [0, 1, 3, 5], [0], [0, 0, 1, 1, 0], [0, 1, 3, 5]])


class PowerFailures(unittest.TestCase):
    def test_at_each_place(self):
        second = tick(-1, 4, 1, 6)
        for calls in ((), (write(1),), (write(9),), (write(10),), (write(5), commit(-1)), (write(10), write(1))):
            for place in range(len(calls) + 1):
                before = (FIRST, BEGIN) + calls[:place] + (second,) + calls[place:]
                self.assertEqual(ask(*before, CUT, RECOVER, CONTENTS, write(1), tick(-1), BEGIN)[len(before) + 1:],
                                 [[0, 0, 2, 2, 0], [0, 2, 3, 5, 4, 6], [-3], [0, 3, 8], [0, 12]], before)

    def test_refused_calls_behind_a_failure(self):
        self.assertEqual(ask(FIRST, BEGIN, write(4), CUT, BEGIN, write(1), commit(-1))[4:], [[-7], [-7], [-7]])


class CommitPower(unittest.TestCase):
    BEGUN = (FIRST, BEGIN, tick(-1, 4, 1, 6), write(99))

    def test_enough(self):
        for power in (-1, 9, 10, 100000):
            self.assertEqual(ask(*self.BEGUN, commit(power), CUT, RECOVER, CONTENTS)[4:],
                             [[0, 1, 2], [0], [0, 1, 2, 1, 0], [0, 2, 3, 5, 4, 6]], power)

    def test_outside_the_range(self):
        for power in OUTSIDE:
            self.assertEqual(ask(*self.BEGUN, commit(power), commit(-1))[4:], [[-1], [0, 1, 2]], power)

    def test_a_torn_even_record(self):
        for power in range(9):
            given = ask(*self.BEGUN, commit(power), CONTENTS, RECOVER, CONTENTS, *WHOLE, CUT, RECOVER)
            self.assertEqual(given[4:], [[0, -1, 9], [-7], [0, 0, 2, 2, 0], [0, 2, 3, 5, 4, 6], [0, 12], [0, 0],
                                         [0, 1, 2], [0], [0, 1, 2, 0, 0]], power)

    def test_a_torn_odd_record(self):
        before = self.BEGUN + (commit(-1), BEGIN, tick(-1, 5, 1, 7), write(99))
        after = [0, 3, 3, 5, 4, 6, 5, 7]
        for power in range(9):
            given = ask(*before, commit(power), CONTENTS, RECOVER, CONTENTS, *WHOLE, CUT, RECOVER, CONTENTS)
            self.assertEqual(given[8:], [[0, -1, 9], [-7], [0, 1, 3, 2, 0], after, [0, 14], [0, 0], [0, 0, 3], [0],
                                         [0, 0, 3, 0, 0], after], power)
        self.assertEqual(ask(*before, commit(9))[8], [0, 0, 3])

    def test_a_torn_record_replaces_the_older_one(self):
        # Record 3 replaces record 1 even where none of its bytes is written: record 2 is what is left.
        before = self.BEGUN + (commit(-1), BEGIN, write(99))
        for power in range(9):
            calls = before + (commit(power), RECOVER, BEGIN, write(4), CUT, RECOVER)
            self.assertEqual(ask(*calls)[-1], [0, 1, 2, 1, 0])

    def test_a_longer_record(self):
        calls = list(WHOLE) * 62
        given = ask(*calls, BEGIN, write(99), commit(9), RECOVER, BEGIN, write(99), commit(10))
        # Record 63 has one byte for its number, record 64 has two.
        self.assertEqual(given[3 * 62 - 1], [0, 0, 63])
        self.assertEqual(given[3 * 62 + 2:], [[0, -1, 10], [0, 0, 0, 0, 0], [0, 8], [0, 0], [0, 1, 64]])


if __name__ == "__main__":
    unittest.main()
