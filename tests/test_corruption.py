"""Recovery of a disk whose bytes were corrupted; all of it through the calls."""

import unittest

from tests.calls import (BEGIN, BIG, CONTENTS, CUT, LIST_TICKS, RECOVER, RESET, STATUS, ask, commit, corrupt, last,
                         overwrite, read_file, tick, write)
from tests.hand import checkpoint_of, frame_of, framed, integer, payload_of, tick_of

FIRST = tick(-1, 3, 1, 5)
SECOND = tick(-1, 4, 1, 6)
THIRD = tick(-1, 5, 1, 7)
FOURTH = tick(-1, 6, 1, 8)
WHOLE = (BEGIN, write(100000), commit(-1))
# Side 0: checkpoint 0, ticks 1 and 2, record 1. Side 1: checkpoint 1, ticks 2 to 4, record 2.
BOTH = (FIRST, BEGIN, SECOND, write(99), commit(-1), THIRD, FOURTH)
SIDE_0 = [[0, 0, 2, 2, 0], [0, 2, 3, 5, 4, 6]]
SIDE_1 = [[0, 1, 4, 3, 0], [0, 4, 3, 5, 4, 6, 5, 7, 6, 8]]


def after(*calls):
    """The answers of recover and of contents when the power fails behind these calls."""
    return ask(*calls, CUT, RECOVER, CONTENTS)[-2:]


def other_bytes(byte):
    """Some bytes beside this one: each with one bit changed, and the outermost."""
    return [other for other in sorted({byte ^ (1 << place) for place in range(8)} | {0, 255}) if other != byte]


def each_change(file, data):
    """For each byte of a file's bytes and some other bytes: the place and the call that changes it."""
    return [(place, corrupt(file, place, other)) for place, byte in enumerate(data) for other in other_bytes(byte)]


class OneByte(unittest.TestCase):
    def test_no_byte(self):
        self.assertEqual(after(*BOTH), SIDE_1)

    def test_the_newer_commit_record(self):
        for place, wrong in each_change(4, frame_of([2, 1])):
            self.assertEqual(after(*BOTH, wrong), SIDE_0, wrong)

    def test_the_newer_checkpoint(self):
        for place, wrong in each_change(1, frame_of([1, 3, 5])):
            self.assertEqual(after(*BOTH, wrong), SIDE_0, wrong)

    def test_the_older_side(self):
        for file, data in ((0, frame_of([0])), (5, frame_of([1, 0])),
                           (2, frame_of([1, 3, 1, 5]) + frame_of([2, 4, 1, 6]))):
            for place, wrong in each_change(file, data):
                self.assertEqual(after(*BOTH, wrong), SIDE_1, wrong)

    def test_the_journal(self):
        journal = frame_of([2, 4, 1, 6]) + frame_of([3, 5, 1, 7]) + frame_of([4, 6, 1, 8])
        entries = SIDE_1[1][2:]
        for place, wrong in each_change(3, journal):
            kept = place // 11
            self.assertEqual(after(*BOTH, wrong), [[0, 1, 1 + kept, kept, 33 - 11 * kept],
                                                   [0, 1 + kept] + entries[:2 * kept + 2]], wrong)

    def test_the_journal_is_truncated(self):
        given = ask(*BOTH, corrupt(3, 15, 9), CUT, RECOVER, read_file(3), CUT, RECOVER)
        self.assertEqual(given[-4:], [[0, 1, 2, 1, 22], [0] + frame_of([2, 4, 1, 6]), [0], [0, 1, 2, 1, 0]])

    def test_the_only_side(self):
        for file, data in ((0, frame_of([0])), (5, frame_of([1, 0]))):
            for place, wrong in each_change(file, data):
                self.assertEqual(ask(FIRST, wrong, CUT, RECOVER), [[0, 1, 11], [0], [0], [-6]], wrong)

    def test_the_only_journal(self):
        for place, wrong in each_change(2, frame_of([1, 3, 1, 5])):
            self.assertEqual(after(FIRST, wrong), [[0, 0, 0, 0, 11], [0, 0]], wrong)

    def test_the_checkpoint_that_is_being_written(self):
        begun = (FIRST, BEGIN, SECOND, write(99))
        for place, wrong in each_change(1, frame_of([1, 3, 5])):
            self.assertEqual(after(*begun, wrong), SIDE_0)
            # The record is written, but its side is not readable.
            self.assertEqual(after(*begun, wrong, commit(-1), THIRD), SIDE_0)
            self.assertEqual(ask(*begun, wrong, commit(-1), THIRD)[-2:], [[0, 1, 2], [0, 3, 11]])


class BothSides(unittest.TestCase):
    def test_nothing_can_be_recovered(self):
        for first in (0, 5):
            for second in (1, 4):
                wrong = (corrupt(first, 3, 200), corrupt(second, 3, 200))
                given = ask(*BOTH, *wrong, CUT, RECOVER, STATUS, CONTENTS, RECOVER, RESET, CONTENTS)
                self.assertEqual(given[-6:], [[-6], [0, 0, 0, 0, 0, 0, 0, 4], [-7], [-6], [0], [0, 0]])

    def test_a_refused_recovery_changes_nothing(self):
        wrong = BOTH + (corrupt(4, 3, 200), corrupt(5, 3, 200), corrupt(3, 15, 9), CUT)
        looks = [read_file(file) for file in range(6)] + [STATUS]
        self.assertEqual(ask(*wrong, RECOVER, *looks)[-7:], ask(*wrong, *looks)[-7:])

    def test_a_byte_set_right_again(self):
        given = ask(FIRST, CUT, corrupt(5, 8, 0), RECOVER, corrupt(5, 8, 165), RECOVER, CONTENTS)
        self.assertEqual(given[2:], [[0], [-6], [0], [0, 0, 1, 1, 0], [0, 1, 3, 5]])
        given = ask(FIRST, corrupt(0, 1, 0), CUT, RECOVER, RECOVER, corrupt(0, 1, 1), RECOVER)
        self.assertEqual(given[3:], [[-6], [-6], [0], [0, 0, 1, 1, 0]])

    def test_the_older_side_goes_on(self):
        given = ask(*BOTH, corrupt(4, 0, 1), CUT, RECOVER, STATUS, tick(-1, 9, 1, 9), *WHOLE, read_file(4), CUT,
                    RECOVER, CONTENTS)[9:]
        self.assertEqual(given, [[0, 0, 2, 2, 0], [0, 1, 2, 0, 1, 0, 0, 2], [0, 3, 11], [0, 14], [0, 0], [0, 1, 2],
                                 [0] + frame_of([2, 1]), [0], [0, 1, 3, 0, 0], [0, 3, 3, 5, 4, 6, 9, 9]])

    def test_the_durable_tick_is_the_recovered_one(self):
        given = ask(*BOTH, STATUS, corrupt(1, 0, 1), STATUS, CUT, STATUS, RECOVER, STATUS)[7:]
        self.assertEqual(given, [[0, 1, 4, 1, 2, 0, 0, 4], [0], [0, 1, 4, 1, 2, 0, 0, 4], [0],
                                 [0, 0, 0, 0, 0, 0, 0, 4], SIDE_0[0], [0, 1, 2, 0, 1, 0, 0, 2]])


class Commits(unittest.TestCase):
    """Records whose checksums are right, but whose numbers are others."""

    def recovered(self, even, odd):
        """The side and the commit record number, or the refusal."""
        given = ask(*BOTH, *overwrite(4, framed(even)), *overwrite(5, framed(odd)), CUT, RECOVER, STATUS)
        return given[-2] if given[-2] == [-6] else (given[-2][1], given[-1][4])

    def test_numbers(self):
        for even, odd, expected in (([2, 1], [1, 0], (1, 2)), ([2, 1], [3, 0], (0, 3)), ([3, 1], [4, 0], (0, 4)),
                                    ([5, 0], [4, 1], (0, 5)), ([63, 0], [62, 1], (0, 63)), ([1, 1], [2, 1], (1, 2))):
            self.assertEqual(self.recovered(payload_of(even), payload_of(odd)), expected)

    def test_equal_numbers(self):
        for side in (0, 1):
            self.assertEqual(self.recovered(payload_of([2, side]), payload_of([2, 1 - side])), (side, 2))
            self.assertEqual(self.recovered(payload_of([7, side]), payload_of([7, 1 - side])), (side, 7))

    def test_equal_numbers_of_a_side_that_is_not_readable(self):
        for side in (0, 1):
            equal = overwrite(4, frame_of([2, side])) + overwrite(5, frame_of([2, 1 - side]))
            self.assertEqual(ask(*BOTH, *equal, corrupt(side, 0, 1), CUT, RECOVER)[-1][1], 1 - side)

    def test_wrong_records(self):
        for wrong in ([0, 1], [-1, 1], [-63, 1], [9, 2], [9, -1], [9, -2], [9, 63]):
            self.assertEqual(self.recovered(payload_of(wrong), payload_of([1, 0])), (0, 1), wrong)
            self.assertEqual(self.recovered(payload_of([2, 1]), payload_of(wrong)), (1, 2), wrong)
            self.assertEqual(self.recovered(payload_of(wrong), payload_of(wrong)), [-6], wrong)

    def test_one_integer_alone(self):
        self.assertEqual(self.recovered(integer(9, 2), payload_of([1, 0])), (0, 1))
        self.assertEqual(self.recovered(payload_of([2, 1]), integer(9, 2)), (1, 2))

    def test_a_payload_that_ends_within_a_part(self):
        self.assertEqual(self.recovered([18, 130], payload_of([1, 0])), (0, 1))

    def test_the_number_goes_on_from_the_recovered_one(self):
        # The even file holds an odd number: the next record replaces it.
        given = ask(*BOTH, *overwrite(4, frame_of([7, 1])), CUT, RECOVER, *WHOLE, read_file(4), read_file(5))
        self.assertEqual(given[-3:], [[0, 0, 8], [0] + frame_of([8, 0]), [0] + frame_of([1, 0])])


class Journals(unittest.TestCase):
    """A journal with one frame that was made by hand behind tick 1."""

    def replayed(self, payload):
        """What is recovered when tick 2 gets this payload with right checksums, tick 3 stands behind it."""
        made = tick_of(len(payload))
        return after(FIRST, made, THIRD, *overwrite(2, framed(payload), 11))

    def check_kept(self, payload, *entries):
        self.assertEqual(self.replayed(payload), [[0, 0, 3, 3, 0], [0, 3, *entries]], payload)

    def check_dropped(self, payload):
        self.assertEqual(self.replayed(payload), [[0, 0, 1, 1, len(payload) + 18], [0, 1, 3, 5]], payload)

    def test_right_ticks(self):
        self.check_kept(payload_of([2]), 3, 5, 5, 7)
        self.check_kept(payload_of([2, 4, 1, -6]), 3, 5, 4, -6, 5, 7)
        self.check_kept(payload_of([2, 4, 1, 9, 3, 0, 0]), 4, 9, 5, 7)

    def test_numbers_of_ticks(self):
        for number in (1, 3, 0, -1, -2, 63):
            self.check_dropped(payload_of([number]))
            self.check_dropped(payload_of([number, 4, 1, 6]))

    def test_longer_forms(self):
        for length in range(2, 13):
            self.check_kept(integer(2, length) + payload_of([4, 1, 6]), 3, 5, 4, 6, 5, 7)
            self.check_kept(payload_of([2, 4, 1]) + integer(-6, length), 3, 5, 4, -6, 5, 7)
        self.check_kept(integer(2, 12) + integer(4, 12) + integer(1, 12) + integer(6, 12), 3, 5, 4, 6, 5, 7)

    def test_parts_of_13_bytes(self):
        self.check_dropped(integer(2, 13) + payload_of([4, 1, 6]))
        self.check_dropped(payload_of([2, 4, 1]) + integer(6, 13))
        self.check_dropped(payload_of([2, 4, 1]) + integer(6, 30))

    def test_a_payload_that_ends_within_a_part(self):
        self.check_dropped([130])
        self.check_dropped(payload_of([2, 4, 1]) + [140])
        self.check_dropped(payload_of([2, 4, 1, 6]) + [128])

    def test_rows_that_are_no_tick(self):
        for row in ([2, 4, 1, 6, 4], [2, 4, 1, 6, 4, 1], [2, 64, 1, 6], [2, -1, 1, 6], [2, 4, 2, 6], [2, 4, -1, 6],
                    [2, 4, 1, 6, 64, 0, 0], [2, 4, 1, BIG + 1], [2, 4, 1, -BIG - 1], [2, 4, 0, BIG + 1]):
            self.check_dropped(payload_of(row))
        self.check_dropped(payload_of([2, 4, 1]) + [255] * 11 + [127])

    def test_outermost_values(self):
        self.check_kept(payload_of([2, 4, 1, BIG, 6, 1, -BIG]), 3, 5, 4, BIG, 5, 7, 6, -BIG)

    def test_removals_with_any_third_number(self):
        for value in (0, 1, -1, BIG, -BIG):
            self.check_kept(payload_of([2, 4, 1, 9, 3, 0, value]), 4, 9, 5, 7)

    def test_more_than_16_changes(self):
        row = [2] + [number for key in range(10, 27) for number in (key, 1, key - 20)]
        entries = [number for key in range(10, 27) for number in (key, key - 20)]
        self.check_kept(payload_of(row), 3, 5, 5, 7, *entries)

    def test_a_frame_that_is_no_tick_amid_the_journal(self):
        wrong = overwrite(2, frame_of([2, 4, 2, 6]), 11)
        given = ask(FIRST, SECOND, THIRD, *wrong, LIST_TICKS, CUT, RECOVER, LIST_TICKS, read_file(2))
        self.assertEqual(given[-5:], [[0, 1, 1, 3, 1], [0], [0, 0, 1, 1, 22], [0, 1, 1],
                                      [0] + frame_of([1, 3, 1, 5])])

    def test_a_number_that_does_not_follow(self):
        wrong = overwrite(2, frame_of([4, 4, 1, 6]), 11)
        given = ask(FIRST, SECOND, THIRD, *wrong, LIST_TICKS, CUT, RECOVER)
        self.assertEqual(given[-3:], [[0, 1, 1, 4, 1, 3, 1], [0], [0, 0, 1, 1, 22]])
        wrong = overwrite(2, frame_of([0, 3, 1, 5]))
        self.assertEqual(after(FIRST, SECOND, *wrong), [[0, 0, 0, 0, 22], [0, 0]])

    def test_a_later_tick_behind_corrupted_bytes(self):
        given = ask(FIRST, corrupt(2, 3, 9), SECOND, STATUS, CUT, RECOVER, STATUS)
        self.assertEqual(given[2:], [[0, 2, 11], [0, 1, 2, 0, 1, 0, 0, 2], [0], [0, 0, 0, 0, 22],
                                     [0, 1, 0, 0, 1, 0, 0, 0]])


class Checkpoints(unittest.TestCase):
    """A checkpoint that was made by hand, of tick 1, with a record and a journal for it."""

    def recovered(self, payload):
        return after(*checkpoint_of(payload))

    def check_read(self, payload, *numbers):
        self.assertEqual(self.recovered(payload), [[0, 0, numbers[0], 0, 0], [0, *numbers]], payload)

    def check_refused(self, payload):
        self.assertEqual(self.recovered(payload), [[-6], [-7]], payload)

    def test_valid_checkpoints(self):
        for row in ([7, 0, 5], [0, 0, 0], [7, 2, 3, 4, 5], [7, 0, BIG, 63, -BIG]):
            self.check_read(payload_of(row), *row)
        self.check_read(integer(7, 8), 7)

    def test_longer_forms(self):
        for length in (1, 2, 11, 12):
            self.check_read(integer(7, length) + payload_of([4, -6]), 7, 4, -6)
            self.check_read(payload_of([7, 4]) + integer(-6, length), 7, 4, -6)
            self.check_read(payload_of([7]) + integer(4, length) + payload_of([-6]), 7, 4, -6)
        self.check_refused(integer(7, 13) + payload_of([4, -6]))
        self.check_refused(payload_of([7, 4]) + integer(-6, 13))

    def test_a_payload_that_ends_within_a_part(self):
        self.check_refused(payload_of([7, 4]) + [140])
        self.check_refused(payload_of([7, 4, 6]) + [128])

    def test_wrong_rows(self):
        for row in ([-1, 4, 6], [7, 4, 6, 5], [7, 64, 6], [7, -1, 6], [7, 4, BIG + 1], [7, 4, -BIG - 1]):
            self.check_refused(payload_of(row))

    def test_keys_that_do_not_rise(self):
        for keys in ((5, 4), (4, 4), (63, 0)):
            self.check_refused(payload_of([7, keys[0], 1, keys[1], 2]))
        self.check_refused(payload_of([7, 4, 1, 5, 2, 5, 3]))

    def test_greater_numbers(self):
        for number in (BIG, BIG + 1, 128 ** 12 // 2 - 1):
            self.check_read(integer(number) + payload_of([4, 6]), number, 4, 6)
        self.check_refused(integer(-128 ** 12 // 2) + payload_of([4, 6]))


class LargestTick(unittest.TestCase):
    def at(self, number):
        """Calls behind which the last tick has this number, with the entry 4 and 6."""
        return (*checkpoint_of(payload_of([number, 4, 6])), CUT, RECOVER)

    def test_up_to_the_largest_tick(self):
        given = ask(*self.at(BIG - 1), tick(-1, 5, 1, 7), tick(-1, 5, 1, 8), tick(0), tick(-2), CONTENTS, STATUS, CUT,
                    RECOVER, CONTENTS)[-9:]
        after_it = [0, BIG, 4, 6, 5, 7]
        self.assertEqual(given, [[0, BIG, 19], [-5], [-5], [-1], after_it, [0, 1, BIG, 0, 1, 0, 0, BIG], [0],
                                 [0, 0, BIG, 1, 0], after_it])

    def test_a_refused_tick_writes_nothing(self):
        for power in (-1, 0, 5, 100000):
            given = ask(*self.at(BIG), tick(power, 5, 1, 7), read_file(2), STATUS)[-3:]
            self.assertEqual(given, [[-5], [0], [0, 1, BIG, 0, 1, 0, 0, BIG]])
        self.assertEqual(ask(*self.at(BIG), CUT, tick(-1))[-1], [-7])

    def test_a_checkpoint_there(self):
        for number in (BIG, BIG + 1, 128 ** 12 // 2 - 1):
            data = frame_of([number, 4, 6])
            given = ask(*self.at(number), BEGIN, tick(-1), write(5), write(99), commit(-1), read_file(1), CUT, RECOVER,
                        STATUS, CONTENTS)[-10:]
            self.assertEqual(given, [[0, len(data)], [-5], [0, len(data) - 5], [0, 0], [0, 1, 2], [0] + data, [0],
                                     [0, 1, number, 0, 0], [0, 1, number, 1, 2, 0, 0, number], [0, number, 4, 6]])

    def test_replayed_ticks_above_the_largest(self):
        # The tick behind the checkpoint is made by hand too, and has the number that follows.
        number = BIG + 5
        payload = payload_of([number + 1, 5, 1, 7])
        calls = (*checkpoint_of(payload_of([number, 4, 6])), tick_of(len(payload)), *overwrite(2, framed(payload)))
        self.assertEqual(after(*calls), [[0, 0, number + 1, 1, 0], [0, number + 1, 4, 6, 5, 7]])
        self.assertEqual(last(*calls, CUT, RECOVER, tick(-1)), [-5])
        self.assertEqual(last(*calls, LIST_TICKS), [0, number + 1, 1])


class LargestCommit(unittest.TestCase):
    def renumbered(self, old, new, side):
        """The calls that put one number in the place of another in the newest record, and recover from it."""
        before = frame_of([old, side])
        after_it = frame_of([new, side])
        self.assertEqual(len(before), len(after_it))
        wrong = [corrupt(4 + old % 2, place, byte) for place, byte in enumerate(after_it) if byte != before[place]]
        return wrong + [CUT, RECOVER]

    def at(self, number):
        """Calls behind which the newest record has this number, of 9 bytes; side 0 is active."""
        calls = []
        old = 1
        for length in range(1, 9):
            # The largest number of this many bytes: the next record's number has one byte more.
            largest = 128 ** length // 2 - 1
            calls.extend(self.renumbered(old, largest, 1 - length % 2))
            calls.extend(WHOLE)
            old = largest + 1
        return calls + self.renumbered(old, number, 0)

    def test_up_to_the_largest_record(self):
        given = ask(*self.at(BIG - 1), STATUS, *WHOLE, BEGIN, commit(-1), write(99), commit(-1), commit(0), commit(-2),
                    STATUS, read_file(4), tick(-1), CUT, RECOVER)[-15:]
        self.assertEqual(given[0], [0, 1, 0, 0, BIG - 1, 0, 0, 0])
        self.assertEqual(given[3:11], [[0, 1, BIG], [0, 8], [-3], [0, 0], [-5], [-5], [-1],
                                       [0, 1, 0, 1, BIG, 1, 0, 0]])
        self.assertEqual(given[11], [0] + frame_of([BIG, 1]))
        self.assertEqual(given[12:], [[0, 1, 16], [0], [0, 1, 1, 1, 0]])

    def test_records_above_the_largest(self):
        for number in (BIG, BIG + 1, 128 ** 9 // 2 - 1):
            given = ask(*self.at(number), STATUS, BEGIN, write(99), commit(-1), STATUS)[-5:]
            self.assertEqual(given, [[0, 1, 0, 0, number, 0, 0, 0], [0, 8], [0, 0], [-5],
                                     [0, 1, 0, 0, number, 1, 0, 0]])


if __name__ == "__main__":
    unittest.main()
