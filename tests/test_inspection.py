"""Operations 12 to 16: status, count_frames, list_ticks, checksum, frame."""

import unittest

from tests.calls import (BEGIN, BIG, CONTENTS, CUT, LIST_TICKS, RECOVER, RESET, STATUS, ask, checksum, commit, corrupt,
                         count_frames, frame, import_journal, last, overwrite, read_file, tick, write)
from tests.hand import frame_of, framed, integer, payload_of, tick_of

FIRST = tick(-1, 3, 1, 5)
WHOLE = (BEGIN, write(100000), commit(-1))
ONE = frame_of([1, 3, 1, 5])
TWO = frame_of([2])


class Status(unittest.TestCase):
    def test_new(self):
        self.assertEqual(ask(STATUS, RESET, STATUS), [[0, 1, 0, 0, 1, 0, 0, 0], [0], [0, 1, 0, 0, 1, 0, 0, 0]])

    def test_ticks(self):
        self.assertEqual(ask(FIRST, STATUS, tick(-1), STATUS)[1::2],
                         [[0, 1, 1, 0, 1, 0, 0, 1], [0, 1, 2, 0, 1, 0, 0, 2]])

    def test_while_a_checkpoint_is_being_written(self):
        given = ask(FIRST, BEGIN, STATUS, write(4), STATUS, tick(-1), STATUS, write(99), STATUS, tick(-1), STATUS,
                    commit(-1), STATUS)
        self.assertEqual([answer for answer in given if len(answer) == 8],
                         [[0, 1, 1, 0, 1, 1, 10, 1], [0, 1, 1, 0, 1, 1, 6, 1], [0, 1, 2, 0, 1, 1, 6, 2],
                          [0, 1, 2, 0, 1, 1, 0, 2], [0, 1, 3, 0, 1, 1, 0, 3], [0, 1, 3, 1, 2, 0, 0, 3]])

    def test_sides_and_commit_numbers(self):
        given = ask(*(WHOLE + (STATUS,)) * 5)[3::4]
        self.assertEqual(given, [[0, 1, 0, number % 2 ^ 1, number, 0, 0, 0] for number in range(2, 7)])

    def test_without_power(self):
        for before in ((FIRST,), (FIRST, BEGIN), (FIRST, BEGIN, write(99)), (FIRST, *WHOLE)):
            self.assertEqual(ask(*before, CUT, STATUS)[-1], [0, 0, 0, 0, 0, 0, 0, 1])
        self.assertEqual(last(*[FIRST] * 70, CUT, STATUS), [0, 0, 0, 0, 0, 0, 0, 70])

    def test_the_durable_tick_behind_too_little_power(self):
        self.assertEqual(ask(FIRST, tick(10, 3, 1, 5), STATUS, RECOVER, STATUS)[2:],
                         [[0, 0, 0, 0, 0, 0, 0, 1], [0, 0, 1, 1, 10], [0, 1, 1, 0, 1, 0, 0, 1]])
        # The tick stands in the active journal, but was not reported; the recovery reports it.
        given = ask(FIRST, BEGIN, tick(15, 3, 1, 5), STATUS, RECOVER, STATUS)
        self.assertEqual(given[2:], [[0, -1, 22], [0, 0, 0, 0, 0, 0, 0, 1], [0, 0, 2, 2, 0], [0, 1, 2, 0, 1, 0, 0, 2]])

    def test_the_durable_tick_behind_a_torn_commit_record(self):
        self.assertEqual(ask(FIRST, BEGIN, write(99), commit(5), STATUS, RECOVER, STATUS)[4:],
                         [[0, 0, 0, 0, 0, 0, 0, 1], [0, 0, 1, 1, 0], [0, 1, 1, 0, 1, 0, 0, 1]])

    def test_the_durable_tick_behind_each_operation_that_changes_it(self):
        given = ask(FIRST, STATUS, tick(-1), STATUS, corrupt(2, 12, 9), STATUS, CUT, STATUS, RECOVER, STATUS,
                    import_journal("1\n2\n3\n4\n"), STATUS, RESET, STATUS)
        self.assertEqual([answer[-1] for answer in given[1::2]], [1, 2, 2, 2, 1, 4, 0])

    def test_the_durable_tick_behind_refusals(self):
        given = ask(FIRST, tick(-2), STATUS, tick(-1, 64, 1, 1), STATUS, RECOVER, STATUS, import_journal("x\n"), STATUS,
                    CUT, tick(-1), STATUS, import_journal("1\n2\n"), STATUS)
        self.assertEqual([answer[-1] for answer in given if len(answer) == 8], [1] * 6)


class CountFrames(unittest.TestCase):
    def test_no_bytes(self):
        self.assertEqual(last(count_frames([])), [0, 0, 0])

    def test_frames(self):
        self.assertEqual(last(count_frames(ONE)), [0, 1, 11])
        self.assertEqual(last(count_frames(ONE + TWO + ONE)), [0, 3, 30])
        self.assertEqual(last(count_frames(frame_of([]) * 285)), [0, 285, 1995])
        self.assertEqual(last(count_frames(frame_of([0] * 1993))), [0, 1, 2000])

    def test_rows_that_are_nothing_on_the_disk(self):
        for row in ([], [-1], [-BIG, BIG], [1, 2], [7] * 100):
            data = frame_of(row)
            self.assertEqual(last(count_frames(data * 2)), [0, 2, 2 * len(data)])

    def test_bytes_behind_the_frames(self):
        for behind in ([0], [165], [0] * 50, [255] * 50, TWO[:-1] + [0], [1] + TWO):
            self.assertEqual(last(count_frames(ONE + behind)), [0, 1, 11], behind)
            self.assertEqual(last(count_frames(behind)), [0, 0, 0], behind)

    def test_a_damaged_frame(self):
        for place in range(11):
            for byte in range(256):
                if byte != ONE[place]:
                    wrong = ONE[:place] + [byte] + ONE[place + 1:]
                    self.assertEqual(last(count_frames(TWO + wrong + TWO)), [0, 1, 8], (place, byte))

    def test_a_frame_cut_short(self):
        for length in range(11):
            self.assertEqual(last(count_frames(ONE[:length])), [0, 0, 0])
            self.assertEqual(last(count_frames(TWO + TWO + ONE[:length])), [0, 2, 16])

    def test_lengths_beyond_the_bytes(self):
        # Right checksums of a length, but the bytes are not there.
        for length in (5, 255, 256, 1993, 65535):
            head = framed([0] * length)[:4]
            self.assertEqual(last(count_frames(head)), [0, 0, 0])
            self.assertEqual(last(count_frames(head + [0] * 4)), [0, 0, 0])

    def test_payloads(self):
        for payload in ([], [0], [127], [128, 0], [255] * 11 + [127], [128] * 11 + [0], integer(5, 12) * 20):
            data = framed(payload)
            self.assertEqual(last(count_frames(data + ONE)), [0, 2, len(data) + 11], payload)
        for payload in ([128], [0, 128], [128] * 12 + [0], [128] * 20, [0] * 20 + integer(5, 13), integer(5, 13) + [0]):
            self.assertEqual(last(count_frames(ONE + framed(payload) + ONE)), [0, 1, 11], payload)

    def test_large_checksums(self):
        data = frame_of([BIG, -BIG] * 100)
        self.assertEqual(len(data), 1807)
        self.assertEqual(last(count_frames(data)), [0, 1, 1807])
        self.assertEqual(last(count_frames(data[:900] + [data[900] ^ 1] + data[901:])), [0, 0, 0])

    def test_without_power(self):
        self.assertEqual(ask(CUT, count_frames(ONE), count_frames([])), [[0], [0, 1, 11], [0, 0, 0]])


class ListTicks(unittest.TestCase):
    def test_no_bytes(self):
        self.assertEqual(last(LIST_TICKS), [0])

    def test_ticks(self):
        sixteen = [number for key in range(16) for number in (key, key % 2, 0)]
        self.assertEqual(ask(FIRST, LIST_TICKS)[1], [0, 1, 1])
        self.assertEqual(last(FIRST, tick(-1), tick(-1, *sixteen), tick(-1, 3, 0, 5), LIST_TICKS),
                         [0, 1, 1, 2, 0, 3, 16, 4, 1])

    def test_the_journal_of_the_active_side(self):
        begun = (FIRST, BEGIN, tick(-1))
        self.assertEqual(last(*begun, LIST_TICKS), [0, 1, 1, 2, 0])
        done = begun + (write(99), commit(-1))
        self.assertEqual(last(*done, LIST_TICKS), [0, 2, 0])
        self.assertEqual(last(*done, tick(-1, 4, 1, 6, 5, 1, 7), LIST_TICKS), [0, 2, 0, 3, 2])
        self.assertEqual(last(*done, *WHOLE, LIST_TICKS), [0])

    def test_without_power(self):
        self.assertEqual(ask(FIRST, CUT, LIST_TICKS, RECOVER, LIST_TICKS)[2:], [[-7], [0, 0, 1, 1, 0], [0, 1, 1]])
        self.assertEqual(ask(FIRST, tick(4), LIST_TICKS, RECOVER, LIST_TICKS)[2:], [[-7], [0, 0, 1, 1, 4], [0, 1, 1]])

    def test_behind_an_import(self):
        self.assertEqual(ask(FIRST, import_journal("1 3=5\n2\n"), LIST_TICKS, tick(-1), LIST_TICKS)[2::2],
                         [[0], [0, 3, 0]])

    def test_a_damaged_frame_ends_the_list(self):
        for place in range(11):
            given = ask(FIRST, FIRST, FIRST, corrupt(2, 11 + place, 200), LIST_TICKS)
            self.assertEqual(given[-1], [0, 1, 1], place)
            self.assertEqual(last(FIRST, FIRST, corrupt(2, place, 200), FIRST, LIST_TICKS), [0])

    def test_other_frames_are_skipped(self):
        for row in ([0], [-1], [-63]):
            self.assertEqual(last(tick(-1), tick(-1), tick(-1), *overwrite(2, frame_of(row), 8), LIST_TICKS),
                             [0, 1, 0, 3, 0], row)
        for row in ([2, 64, 1, 5], [2, -1, 1, 5], [2, 3, 2, 5], [2, 3, -1, 5], [0, 3, 1, 5], [-2, 3, 1, 5],
                    [2, 3, 1, 5, 4], [2, 3, 1, 5, 4, 1], [2, 3, 1, BIG + 1], [2, 3, 0, -BIG - 1]):
            self.assertEqual(self.listed(payload_of(row)), [0, 1, 1, 3, 1], row)

    def listed(self, payload):
        """What is told of three ticks when the second gets this payload with right checksums."""
        return last(FIRST, tick_of(len(payload)), FIRST, *overwrite(2, framed(payload), 11), LIST_TICKS)

    def test_great_numbers(self):
        for number in (BIG, BIG + 1, 128 ** 12 // 2 - 1):
            self.assertEqual(self.listed(integer(number)), [0, 1, 1, number, 0, 3, 1])
        self.assertEqual(self.listed(payload_of([BIG + 1, 3, 1, 5])), [0, 1, 1, BIG + 1, 1, 3, 1])

    def test_longer_forms(self):
        self.assertEqual(self.listed(integer(2, 12)), [0, 1, 1, 2, 0, 3, 1])
        # No valid frame: the list ends there.
        self.assertEqual(self.listed(integer(2, 13)), [0, 1, 1])

    def test_numbers_that_do_not_follow(self):
        for number in (1, 3, 4, 63):
            self.assertEqual(last(FIRST, FIRST, FIRST, *overwrite(2, frame_of([number, 3, 1, 5]), 11), LIST_TICKS),
                             [0, 1, 1, number, 1, 3, 1])
        self.assertEqual(last(FIRST, FIRST, *overwrite(2, frame_of([9, 3, 1, 5])), LIST_TICKS), [0, 9, 1, 2, 1])

    def test_more_than_16_changes(self):
        for count in (17, 20):
            self.assertEqual(self.listed(payload_of([2] + [5, 1, 5] * count)), [0, 1, 1, 2, count, 3, 1])

    def test_removals_with_any_third_number(self):
        self.assertEqual(last(FIRST, *overwrite(2, frame_of([1, 3, 0, 5])), LIST_TICKS), [0, 1, 1])

    def test_it_changes_nothing(self):
        given = ask(FIRST, FIRST, corrupt(2, 12, 9), LIST_TICKS, LIST_TICKS, read_file(2), STATUS, CONTENTS)
        self.assertEqual(given[3:5], [[0, 1, 1], [0, 1, 1]])
        self.assertEqual(given[5:], ask(FIRST, FIRST, corrupt(2, 12, 9), read_file(2), STATUS, CONTENTS)[3:])


class Checksums(unittest.TestCase):
    def test_positions_are_counted_from_1(self):
        for data, expected in (([], 0), ([0], 1), ([255], 256), ([0, 0], 3), ([5, 0], 8), ([0, 5], 13), ([0, 4], 11),
                               ([2, 6, 2, 10], 70), ([1] * 10, 110)):
            self.assertEqual(last(checksum(data)), [0, expected], data)

    def test_the_modulus(self):
        # 1 + 2 + .. + 361 = 65341, and 180 more make 65521.
        zeros = [0] * 361
        self.assertEqual(last(checksum(zeros)), [0, 65341])
        self.assertEqual(last(checksum(zeros[:178] + [1] + zeros[179:])), [0, 65520])
        self.assertEqual(last(checksum(zeros[:179] + [1] + zeros[180:])), [0, 0])
        self.assertEqual(last(checksum(zeros[:180] + [1] + zeros[181:])), [0, 1])

    def test_2000_bytes(self):
        # 1 + .. + 2000 = 2001000.
        for byte in (0, 1, 127, 128, 255):
            self.assertEqual(last(checksum([byte] * 2000)), [0, (byte + 1) * 2001000 % 65521])
        data = [number * 7 % 256 for number in range(2000)]
        expected = sum((byte + 1) * place for place, byte in zip(range(1, 2001), data)) % 65521
        self.assertEqual(ask(checksum(data), CUT, checksum(data)), [[0, expected], [0], [0, expected]])


class Frames(unittest.TestCase):
    def test_an_empty_row(self):
        self.assertEqual(ask(frame([]), CUT, frame([])), [[0, 0, 0, 0, 3, 0, 0, 165], [0], [0, 0, 0, 0, 3, 0, 0, 165]])

    def test_an_example(self):
        self.assertEqual(last(frame([1, 3, 1, 5])), [0, 0, 4, 0, 11, 2, 6, 2, 10, 0, 70, 165])

    def test_integers(self):
        for number, payload in ((0, [0]), (-1, [1]), (1, [2]), (63, [126]), (64, [128, 1]), (-64, [127]),
                                (-65, [129, 1]), (BIG, [128, 128, 160, 246, 244, 172, 219, 224, 27]),
                                (-BIG, [255, 255, 159, 246, 244, 172, 219, 224, 27])):
            self.assertEqual(last(frame([number])), [0] + framed(payload), number)
            self.assertEqual(last(frame([5, number, number])), [0] + framed([10] + payload * 2), number)

    def test_lengths(self):
        for count in (1, 39, 40):
            for number in (0, 64, BIG, -BIG):
                self.assertEqual(last(frame([number] * count)), [0] + frame_of([number] * count))
        for count in (41, 42, 60):
            for number in (0, BIG, -BIG):
                self.assertEqual(ask(frame([number] * count), CUT, frame([number] * count)), [[-1], [0], [-1]])

    def test_a_payload_of_more_than_255_bytes(self):
        given = last(frame([BIG] * 40))
        self.assertEqual(given[:5], [0, 1, 104, 0, 2 + 2 * 105])
        self.assertEqual(len(given), 1 + 360 + 7)

    def test_frames_are_counted_as_valid(self):
        for row in ([], [0], [-1, 1, 63, 64, -64, -65, BIG, -BIG], [BIG] * 40):
            data = last(frame(row))[1:]
            self.assertEqual(last(count_frames(data + data[:-1])), [0, 1, len(data)])

    def test_frames_of_the_disk(self):
        given = ask(FIRST, BEGIN, write(99), commit(-1), read_file(0), frame([0]), read_file(1), frame([1, 3, 5]),
                    read_file(2), frame([1, 3, 1, 5]), read_file(4), frame([2, 1]), read_file(5), frame([1, 0]))[4:]
        self.assertEqual(given[::2], given[1::2])


if __name__ == "__main__":
    unittest.main()
