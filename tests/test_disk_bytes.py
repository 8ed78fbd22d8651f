"""Operations 9 and 10: read_file and corrupt_byte."""

import unittest

from tests.calls import (BEGIN, BIG, CONTENTS, CUT, RECOVER, RESET, STATUS, ask, commit, corrupt, get, last, overwrite,
                         read_file, tick, write)
from tests.hand import frame_of

ALL_FILES = [read_file(file) for file in range(6)]
NEW = [frame_of([0]), [], [], [], [], frame_of([1, 0])]
FIRST = tick(-1, 3, 1, 5)
ONE = frame_of([1, 3, 1, 5])
TWO = frame_of([2, 4, 0, 0])
WHOLE = frame_of([1, 3, 5])
SECOND_RECORD = frame_of([2, 1])


def files(*calls):
    """The bytes of the six files behind the calls."""
    given = ask(*calls, *ALL_FILES)[len(calls):]
    if any(answer[0] != 0 for answer in given):
        raise ValueError("a file was refused")
    return [answer[1:] for answer in given]


class ReadFile(unittest.TestCase):
    def test_a_new_disk(self):
        self.assertEqual(files(), NEW)
        # 0 is one byte; the record is the two bytes 2 and 0.
        self.assertEqual(ask(read_file(0), read_file(5)), [[0, 0, 1, 0, 5, 0, 0, 1, 165],
                                                           [0, 0, 2, 0, 7, 2, 0, 0, 5, 165]])

    def test_an_empty_file(self):
        self.assertEqual(ask(*[read_file(file) for file in (1, 2, 3, 4)]), [[0]] * 4)

    def test_behind_ticks(self):
        self.assertEqual(files(FIRST, tick(-1, 4, 0, 99)), [NEW[0], [], ONE + TWO, [], [], NEW[5]])

    def test_while_a_checkpoint_is_being_written_and_behind_it(self):
        begun = (FIRST, BEGIN, tick(-1, 4, 0, 99), write(4))
        self.assertEqual(files(*begun), [NEW[0], WHOLE[:4], ONE + TWO, TWO, [], NEW[5]])
        self.assertEqual(files(*begun, write(99)), [NEW[0], WHOLE, ONE + TWO, TWO, [], NEW[5]])
        done = begun + (write(99), commit(-1))
        self.assertEqual(files(*done), [NEW[0], WHOLE, ONE + TWO, TWO, SECOND_RECORD, NEW[5]])
        self.assertEqual(files(*done, BEGIN), [[], WHOLE, [], TWO, SECOND_RECORD, NEW[5]])
        self.assertEqual(files(*done, BEGIN, write(99), commit(-1)),
                         [frame_of([2, 3, 5]), WHOLE, [], TWO, SECOND_RECORD, frame_of([3, 0])])

    def test_torn_writes(self):
        for power in range(11):
            self.assertEqual(files(tick(power, 3, 1, 5)), [NEW[0], [], ONE[:power], [], [], NEW[5]])
        for power in range(9):
            self.assertEqual(files(FIRST, BEGIN, write(99), commit(power)),
                             [NEW[0], WHOLE, ONE, [], SECOND_RECORD[:power], NEW[5]])

    def test_without_power(self):
        self.assertEqual(files(CUT), NEW)
        self.assertEqual(files(FIRST, CUT), [NEW[0], [], ONE, [], [], NEW[5]])

    def test_behind_recover_and_reset(self):
        self.assertEqual(files(FIRST, tick(5, 4, 0, 0), RECOVER), [NEW[0], [], ONE, [], [], NEW[5]])
        self.assertEqual(files(FIRST, BEGIN, write(99), commit(-1), CUT, RESET), NEW)

    def test_no_such_file(self):
        for file in (-1, 6, -BIG, BIG, -6):
            self.assertEqual(ask(read_file(file), CUT, read_file(file)), [[-1], [0], [-1]], file)

    def test_reading_changes_nothing(self):
        self.assertEqual(ask(*ALL_FILES, *ALL_FILES)[:6], ask(*ALL_FILES, *ALL_FILES)[6:])
        self.assertEqual(ask(read_file(2), FIRST, read_file(2), tick(-1, 4, 0, 0), read_file(2))[::2],
                         [[0], [0] + ONE, [0] + ONE + TWO])


class CorruptByte(unittest.TestCase):
    def test_a_byte_is_replaced(self):
        for place in range(11):
            for byte in (0, 1, 127, 128, 255):
                wrong = ONE[:place] + [byte] + ONE[place + 1:]
                self.assertEqual(last(FIRST, corrupt(2, place, byte), read_file(2)), [0] + wrong)

    def test_it_answers_no_fields(self):
        self.assertEqual(ask(corrupt(0, 0, 7), corrupt(5, 8, 0)), [[0], [0]])

    def test_the_other_files_stay(self):
        before = (FIRST, BEGIN, write(99), commit(-1), tick(-1, 4, 0, 99))
        for file in range(6):
            expected = files(*before)
            expected[file][1] = 99
            self.assertEqual(files(*before, corrupt(file, 1, 99)), expected)

    def test_no_such_position(self):
        for position in (-1, -11, 11, 12, -BIG, BIG):
            self.assertEqual(ask(FIRST, corrupt(2, position, 0), read_file(2)), [[0, 1, 11], [-4], [0] + ONE])
        self.assertEqual(ask(FIRST, corrupt(2, 10, 0), read_file(2))[1:], [[0], [0] + ONE[:10] + [0]])
        for position in (-1, 0, 1):
            self.assertEqual(ask(corrupt(1, position, 0)), [[-4]])

    def test_no_such_file_or_byte(self):
        for position in (0, -1, 8, BIG, -BIG):
            for file, byte in ((-1, 0), (6, 0), (-BIG, 0), (BIG, 0), (0, -1), (0, 256), (0, BIG), (0, -BIG), (6, 256),
                               (1, 256), (1, -1)):
                self.assertEqual(ask(corrupt(file, position, byte), read_file(0)), [[-1], [0] + NEW[0]])
                self.assertEqual(ask(CUT, corrupt(file, position, byte)), [[0], [-1]])

    def test_without_power(self):
        given = ask(FIRST, CUT, corrupt(2, 10, 1), corrupt(2, 11, 1), read_file(2), STATUS, RECOVER)
        self.assertEqual(given[2:], [[0], [-4], [0] + ONE[:10] + [1], [0, 0, 0, 0, 0, 0, 0, 1], [0, 0, 0, 0, 11]])

    def test_the_memory_stays(self):
        before = (FIRST, BEGIN, tick(-1, 4, 1, 6), write(4))
        looks = (STATUS, CONTENTS, get(3), get(4))
        for file, size in enumerate((8, 4, 22, 11, 0, 9)):
            wrong = [corrupt(file, place, 33) for place in range(size)]
            self.assertEqual(ask(*before, *wrong, *looks)[-4:], ask(*before, *looks)[-4:], file)

    def test_the_pending_bytes_stay(self):
        given = ask(FIRST, BEGIN, write(4), *overwrite(1, [9, 9, 9, 9]), write(99), read_file(1))
        self.assertEqual(given[-2:], [[0, 0], [0, 9, 9, 9, 9] + WHOLE[4:]])
        self.assertEqual(ask(FIRST, BEGIN, corrupt(1, 0, 9))[2], [-4])

    def test_what_is_written_later_is_not_corrupted(self):
        given = ask(FIRST, corrupt(2, 0, 9), tick(-1, 4, 0, 99), read_file(2))
        self.assertEqual(given[-1], [0, 9] + ONE[1:] + TWO)
        given = ask(*overwrite(5, [9] * 9), BEGIN, write(99), commit(-1), BEGIN, write(99), commit(-1), read_file(5))
        self.assertEqual(given[-1], [0] + frame_of([3, 0]))

    def test_recovery_sees_the_byte(self):
        self.assertEqual(ask(FIRST, corrupt(2, 7, 12), get(3), CUT, RECOVER, CONTENTS)[1:],
                         [[0], [0, 5], [0], [0, 0, 0, 0, 11], [0, 0]])

    def test_a_byte_that_is_there_already(self):
        self.assertEqual(ask(FIRST, corrupt(2, 10, 165), CUT, RECOVER)[1:], [[0], [0], [0, 0, 1, 1, 0]])

    def test_two_requests(self):
        ask(*overwrite(0, [9] * 8), *overwrite(5, [9] * 9))
        self.assertEqual(files(), NEW)


if __name__ == "__main__":
    unittest.main()
