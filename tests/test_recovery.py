"""Disk and memory: commit records, readable sides, replayed ticks, recovery, on files that are written by hand."""

import unittest

from tickstore.frames import frame
from tickstore.inspection import status
from tickstore.operations import commit_checkpoint, contents, recover, tick, begin_checkpoint, write_checkpoint
from tickstore.session import Session

BIG = 10 ** 18


def without_power(files):
    """A session without power whose disk has these files, by their numbers; the others are empty."""
    session = Session()
    session.files = [list(files.get(place, [])) for place in range(6)]
    session.memory = None
    session.durable_tick = 77
    return session


def both_sides(commits):
    """Side 0 is at tick 10, side 1 at tick 20."""
    return without_power({0: frame([10, 1, 100]), 1: frame([20, 2, 200]), **commits})


class NewDisk(unittest.TestCase):
    def test_files(self):
        session = Session()
        self.assertEqual(session.files, [frame([0]), [], [], [], [], frame([1, 0])])
        self.assertEqual(session.durable_tick, 0)


class Commits(unittest.TestCase):
    def recovered(self, session):
        """Side, tick and commit record number."""
        answer = recover(session)
        return (answer[1], answer[2], session.memory.commit_number)

    def test_the_greater_number_goes_first(self):
        self.assertEqual(self.recovered(both_sides({4: frame([4, 0]), 5: frame([5, 1])})), (1, 20, 5))
        self.assertEqual(self.recovered(both_sides({4: frame([6, 0]), 5: frame([5, 1])})), (0, 10, 6))

    def test_equal_numbers(self):
        self.assertEqual(self.recovered(both_sides({4: frame([5, 0]), 5: frame([5, 1])})), (0, 10, 5))
        self.assertEqual(self.recovered(both_sides({4: frame([5, 1]), 5: frame([5, 0])})), (1, 20, 5))

    def test_one_record_alone(self):
        for place in (4, 5):
            self.assertEqual(self.recovered(both_sides({place: frame([8, 1])})), (1, 20, 8))
            self.assertEqual(self.recovered(both_sides({place: frame([9, 0])})), (0, 10, 9))

    def test_an_invalid_record_is_passed_over(self):
        good = frame([1, 0])
        for wrong in ([9, 2], [9, -1], [-9, 1], [0, 1], [9], [9, 1, 1]):
            self.assertEqual(self.recovered(both_sides({4: frame(wrong), 5: good})), (0, 10, 1), wrong)
            self.assertEqual(self.recovered(both_sides({4: good, 5: frame(wrong)})), (0, 10, 1), wrong)
        self.assertEqual(self.recovered(both_sides({4: frame([9, 1]) + [0], 5: good})), (0, 10, 1))
        self.assertEqual(self.recovered(both_sides({4: frame([9, 1])[:-1], 5: good})), (0, 10, 1))

    def test_a_record_whose_side_is_not_readable_is_passed_over(self):
        for wrong in ([], frame([-1]), frame([20, 2]), frame([20, 64, 1]), frame([20]) + frame([20])):
            session = both_sides({4: frame([4, 0]), 5: frame([5, 1])})
            session.files[1] = wrong
            self.assertEqual(self.recovered(session), (0, 10, 4))

    def test_nothing_can_be_recovered(self):
        sessions = [both_sides({}), both_sides({4: frame([0, 1]), 5: [1, 2]}), without_power({5: frame([1, 0])}),
                    without_power({0: frame([0]), 4: frame([4, 1]), 5: frame([3, 1])})]
        for session in sessions:
            session.files[2] = [1, 2, 3]
            session.files[3] = [1, 2, 3]
            before = [list(data) for data in session.files]
            self.assertEqual(recover(session), [-6])
            self.assertEqual(session.files, before)
            self.assertIsNone(session.memory)
            self.assertEqual(session.durable_tick, 77)
            self.assertEqual(contents(session), [-7])


class Replay(unittest.TestCase):
    def replay(self, journal):
        """The answer of recover, the contents, and the journal's length; on a checkpoint of tick 10."""
        session = without_power({0: frame([10, 1, 100]), 2: journal, 5: frame([1, 0])})
        answer = recover(session)
        return (answer, contents(session), len(session.files[2]))

    def test_no_ticks(self):
        self.assertEqual(self.replay([]), ([0, 0, 10, 0, 0], [0, 10, 1, 100], 0))

    def test_ticks_in_order(self):
        journal = frame([11, 2, 1, 5]) + frame([12]) + frame([13, 1, 0, 0, 3, 1, -7])
        self.assertEqual(self.replay(journal), ([0, 0, 13, 3, 0], [0, 13, 2, 5, 3, -7], len(journal)))

    def test_ticks_of_other_numbers_end_the_replay(self):
        good = frame([11, 2, 1, 5])
        for wrong in ([10], [11], [13], [12, 1], [12, 64, 1, 1], [12, 1, 2, 1], [12, 1, 1, BIG + 1], [], [-12]):
            behind = frame(wrong) + frame([12, 9, 1, 9])
            self.assertEqual(self.replay(good + behind),
                             ([0, 0, 11, 1, len(behind)], [0, 11, 1, 100, 2, 5], len(good)), wrong)
        self.assertEqual(self.replay(frame([12])), ([0, 0, 10, 0, 8], [0, 10, 1, 100], 0))

    def test_the_first_tick_has_a_number_of_at_least_1(self):
        session = without_power({0: frame([0]), 2: frame([0, 3, 1, 5]), 5: frame([1, 0])})
        self.assertEqual(recover(session), [0, 0, 0, 0, 11])

    def test_bytes_that_are_no_frame_end_the_replay(self):
        good = frame([11, 2, 1, 5])
        behind = [0] + frame([12])
        self.assertEqual(self.replay(good + behind)[0], [0, 0, 11, 1, len(behind)])
        self.assertEqual(self.replay(behind)[0], [0, 0, 10, 0, len(behind)])
        for length in range(11):
            self.assertEqual(self.replay(good + frame([12, 3, 1, 5])[:length])[0], [0, 0, 11, 1, length])

    def test_more_changes_than_a_call_may_have(self):
        journal = frame([11] + [5, 1, 5] * 17)
        self.assertEqual(self.replay(journal)[1], [0, 11, 1, 100, 5, 5])

    def test_a_removal_with_any_value(self):
        self.assertEqual(self.replay(frame([11, 1, 0, 55]))[1], [0, 11])

    def test_only_the_journal_of_the_recovered_side_is_cut(self):
        session = both_sides({4: frame([4, 0]), 5: frame([5, 1])})
        session.files[2] = [1, 2, 3]
        session.files[3] = frame([21]) + [9, 9]
        self.assertEqual(recover(session), [0, 1, 21, 1, 2])
        self.assertEqual(session.files[2:4], [[1, 2, 3], frame([21])])
        self.assertEqual(session.durable_tick, 21)


class LargestNumbers(unittest.TestCase):
    def recovered(self, tick_number, commit_number):
        session = without_power({0: frame([tick_number, 1, 100]), 4: frame([commit_number, 0])})
        recover(session)
        return session

    def test_the_largest_tick(self):
        session = self.recovered(BIG - 1, 4)
        self.assertEqual(tick(session, -1, [1, 1, 5])[:2], [0, BIG])
        self.assertEqual(contents(session), [0, BIG, 1, 5])
        before = list(session.files[2])
        for power in (-1, 0):
            self.assertEqual(tick(session, power, [1, 1, 6]), [-5])
        self.assertEqual(tick(session, -2, []), [-1])
        self.assertEqual(contents(session), [0, BIG, 1, 5])
        self.assertEqual(session.files[2], before)
        self.assertEqual(session.durable_tick, BIG)
        self.assertEqual(tick(self.recovered(BIG + 1, 4), -1, []), [-5])

    def test_commit_records_above_the_largest(self):
        for number in (BIG, BIG + 1, 128 ** 12 // 2 - 1):
            for lower in (1, BIG - 1, number - 1):
                session = both_sides({4: frame([lower, 0]), 5: frame([number, 1])})
                self.assertEqual(recover(session), [0, 1, 20, 0, 0])
                self.assertEqual(status(session), [0, 1, 20, 1, number, 0, 0, 20])
                begin_checkpoint(session)
                write_checkpoint(session, 1000)
                before = [list(data) for data in session.files]
                self.assertEqual(commit_checkpoint(session, -1), [-5])
                self.assertEqual(session.files, before)
                self.assertEqual(status(session), [0, 1, 20, 1, number, 1, 0, 20])

    def test_the_largest_commit_record(self):
        session = self.recovered(3, BIG - 1)
        begin_checkpoint(session)
        self.assertEqual(commit_checkpoint(session, -1), [-3])
        write_checkpoint(session, 1000)
        self.assertEqual(commit_checkpoint(session, -1), [0, 1, BIG])
        begin_checkpoint(session)
        self.assertEqual(commit_checkpoint(session, -1), [-3])
        write_checkpoint(session, 1000)
        before = [list(data) for data in session.files]
        for power in (-1, 0):
            self.assertEqual(commit_checkpoint(session, power), [-5])
        self.assertEqual(commit_checkpoint(session, -2), [-1])
        self.assertEqual(session.files, before)
        self.assertEqual(session.memory.pending, [])
        self.assertEqual((session.memory.side, session.memory.commit_number), (1, BIG))


if __name__ == "__main__":
    unittest.main()
