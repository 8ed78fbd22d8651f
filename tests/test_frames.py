"""Encoding: integers, rows, checksums, frames, valid frames; requirement 3."""

import unittest

from tickstore.frames import (checksum, decoded_row, frame, frame_at, integer_bytes, only_row, row_bytes,
                              two_bytes, valid_frames)

BIG = 10 ** 18
EXAMPLE = [0, 4, 0, 11, 2, 6, 2, 10, 0, 70, 165]


def framed(payload):
    """A frame with right checksums round any payload."""
    length = two_bytes(len(payload))
    return length + two_bytes(checksum(length)) + payload + two_bytes(checksum(payload)) + [165]


class Integers(unittest.TestCase):
    def test_small_integers(self):
        expected = {0: [0], -1: [1], 1: [2], -2: [3], 2: [4], 63: [126], -64: [127], 64: [128, 1], -65: [129, 1],
                    65: [130, 1], 8191: [254, 127], -8192: [255, 127], 8192: [128, 128, 1]}
        for number, data in expected.items():
            self.assertEqual(integer_bytes(number), data, number)

    def test_largest_integers(self):
        for number, natural in ((BIG, 2 * BIG), (-BIG, 2 * BIG - 1)):
            data = integer_bytes(number)
            self.assertEqual(len(data), 9)
            self.assertTrue(all(byte >= 128 for byte in data[:-1]) and data[-1] < 128)
            self.assertEqual(sum(byte % 128 * 128 ** place for place, byte in enumerate(data)), natural)

    def test_rows(self):
        self.assertEqual(row_bytes([]), [])
        self.assertEqual(row_bytes([1, 64, -1, 0]), [2, 128, 1, 1, 0])

    def test_decoding_undoes_encoding(self):
        for number in [0, 1, -1, 63, 64, -64, -65, 127, 128, BIG, -BIG, BIG - 1, 1 - BIG]:
            self.assertEqual(decoded_row(row_bytes([number, 5, number])), [number, 5, number])

    def test_decoding_of_longer_forms(self):
        self.assertEqual(decoded_row([130, 0]), [1])
        self.assertEqual(decoded_row([131, 128, 0]), [-2])
        self.assertEqual(decoded_row([128] * 11 + [0]), [0])
        self.assertEqual(decoded_row([128] * 11 + [1]), [128 ** 11 // 2])
        self.assertIsNone(decoded_row([128] * 12 + [0]))

    def test_decoding_leaves_nothing(self):
        self.assertEqual(decoded_row([]), [])
        self.assertIsNone(decoded_row([128]))
        self.assertIsNone(decoded_row([2, 200]))


class Checksums(unittest.TestCase):
    def test_checksums(self):
        self.assertEqual(checksum([]), 0)
        self.assertEqual(checksum([0]), 1)
        self.assertEqual(checksum([0, 4]), 11)
        self.assertEqual(checksum([2, 6, 2, 10]), 70)
        # 256 * (1 + .. + 1000) = 128128000 = 1955 * 65521 + 34445
        self.assertEqual(checksum([255] * 1000), 34445)

    def test_two_bytes(self):
        self.assertEqual(two_bytes(0), [0, 0])
        self.assertEqual(two_bytes(255), [0, 255])
        self.assertEqual(two_bytes(256), [1, 0])
        self.assertEqual(two_bytes(65535), [255, 255])


class Frames(unittest.TestCase):
    def test_frames(self):
        self.assertEqual(frame([1, 3, 1, 5]), EXAMPLE)
        self.assertEqual(frame([]), [0, 0, 0, 3, 0, 0, 165])
        long = frame([0] * 300)
        self.assertEqual(long[:4], [1, 44, 0, 2 + 2 * 45])
        self.assertEqual(len(long), 307)

    def test_a_frame_is_read_where_it_begins(self):
        self.assertEqual(frame_at(EXAMPLE, 0), ([1, 3, 1, 5], 11))
        self.assertEqual(frame_at([7] + EXAMPLE + [7], 1), ([1, 3, 1, 5], 12))
        self.assertIsNone(frame_at([7] + EXAMPLE, 0))
        self.assertIsNone(frame_at([], 0))
        self.assertIsNone(frame_at(EXAMPLE, 11))
        self.assertEqual(frame_at(frame([]), 0), ([], 7))

    def test_the_payload_must_be_decodable(self):
        self.assertEqual(frame_at(framed([130, 0]), 0), ([1], 9))
        self.assertEqual(frame_at(framed([128] * 11 + [0]), 0), ([0], 19))
        self.assertIsNone(frame_at(framed([128] * 12 + [0]), 0))
        self.assertIsNone(frame_at(framed([2, 128]), 0))

    def test_each_part_of_a_frame_is_checked(self):
        for place in (1, 3, 4, 9, 10):
            wrong = list(EXAMPLE)
            wrong[place] += 1
            self.assertIsNone(frame_at(wrong, 0), place)

    def test_valid_frames(self):
        one = frame([1])
        two = frame([2, 3])
        self.assertEqual(valid_frames([]), [])
        self.assertEqual(valid_frames(one + two), [([1], 8), ([2, 3], 17)])
        self.assertEqual(valid_frames(one + [0] + two), [([1], 8)])
        self.assertEqual(valid_frames(one + two[:-1]), [([1], 8)])
        self.assertEqual(valid_frames([0] + one), [])

    def test_only_row(self):
        self.assertEqual(only_row(frame([4, 5])), [4, 5])
        self.assertIsNone(only_row([]))
        self.assertIsNone(only_row(frame([4, 5]) + [0]))
        self.assertIsNone(only_row(frame([4, 5]) + frame([4, 5])))
        self.assertIsNone(only_row(frame([4, 5])[:-1]))


class Requirement3(unittest.TestCase):
    ROWS = ([], [0], [1, 3, 1, 5], [-1, BIG, -BIG], [2, 64, -65], list(range(40)))

    def test_one_changed_byte(self):
        for row in self.ROWS:
            data = frame(row)
            for place in range(len(data)):
                for byte in range(256):
                    wrong = data[:place] + [byte] + data[place + 1:]
                    self.assertEqual(frame_at(wrong, 0) is None, byte != data[place], (row, place, byte))
                    # With more bytes behind it, another length could find its bytes.
                    if byte != data[place]:
                        self.assertIsNone(frame_at(wrong + data * 2, 0), (row, place, byte))

    def test_one_changed_byte_of_a_long_frame(self):
        data = frame([number % 64 for number in range(700)])
        for place in range(len(data)):
            for byte in (0, 127, 128, 255, data[place] ^ 1):
                if byte != data[place]:
                    self.assertIsNone(frame_at(data[:place] + [byte] + data[place + 1:], 0))

    def test_proper_prefixes(self):
        for row in self.ROWS:
            data = frame(row)
            for length in range(len(data)):
                self.assertIsNone(frame_at(data[:length], 0))


if __name__ == "__main__":
    unittest.main()
