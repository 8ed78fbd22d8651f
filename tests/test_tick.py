"""Operation 1: changes, byte counts, power."""

import unittest

from tests.calls import BEGIN, BIG, CONTENTS, CUT, RECOVER, ask, commit, get, last, tick, write

OUTSIDE = (-2, 100001, -BIG, BIG)


class Changes(unittest.TestCase):
    def test_none(self):
        self.assertEqual(ask(tick(-1), tick(-1), CONTENTS), [[0, 1, 8], [0, 2, 8], [0, 2]])

    def test_sixteen_and_seventeen(self):
        sixteen = [number for key in range(16) for number in (key, 1, key + 1)]
        self.assertEqual(ask(tick(-1, *sixteen), CONTENTS),
                         [[0, 1, 56], [0, 1] + [number for key in range(16) for number in (key, key + 1)]])
        self.assertEqual(ask(tick(-1, *sixteen, 16, 1, 1), CONTENTS), [[-1], [0, 0]])
        self.assertEqual(ask(tick(-1, *[5, 1, 5] * 20), CONTENTS), [[-1], [0, 0]])

    def test_no_multiple_of_three(self):
        for changes in ([3], [3, 1], [3, 1, 5, 3], [3, 1, 5, 3, 1], [3, 0], [0] * 47, [0] * 49):
            self.assertEqual(ask(tick(-1, *changes), CONTENTS), [[-1], [0, 0]], changes)

    def test_keys(self):
        self.assertEqual(ask(tick(-1, 0, 1, 5, 63, 1, 6), CONTENTS)[1], [0, 1, 0, 5, 63, 6])
        for key in (-1, 64, BIG, -BIG):
            for choice in (0, 1):
                self.assertEqual(ask(tick(-1, key, choice, 5), CONTENTS), [[-1], [0, 0]])

    def test_choices(self):
        for choice in (-1, 2, 3, BIG, -BIG):
            self.assertEqual(ask(tick(-1, 3, choice, 5), CONTENTS), [[-1], [0, 0]])

    def test_one_wrong_change_refuses_all(self):
        self.assertEqual(ask(tick(-1, 3, 1, 5, 64, 1, 5), CONTENTS), [[-1], [0, 0]])
        self.assertEqual(ask(tick(-1, 3, 1, 5, 4, 2, 5, 5, 1, 5), CONTENTS), [[-1], [0, 0]])

    def test_values_and_their_bytes(self):
        for value, count in ((0, 11), (63, 11), (-64, 11), (64, 12), (-65, 12), (BIG, 19), (-BIG, 19)):
            self.assertEqual(ask(tick(-1, 3, 1, value), get(3), CUT, RECOVER, get(3)),
                             [[0, 1, count], [0, value], [0], [0, 0, 1, 1, 0], [0, value]])

    def test_removals(self):
        one = tick(-1, 3, 1, 5, 4, 1, 6)
        for value in (0, 1, BIG, -BIG):
            # The third number of a removal is written as 0, in one byte.
            self.assertEqual(ask(one, tick(-1, 3, 0, value), CONTENTS, CUT, RECOVER, CONTENTS)[1:],
                             [[0, 2, 11], [0, 2, 4, 6], [0], [0, 0, 2, 2, 0], [0, 2, 4, 6]])

    def test_removal_of_a_key_that_is_not_there(self):
        self.assertEqual(ask(tick(-1, 3, 0, 0), CONTENTS, tick(-1, 4, 1, 6, 3, 0, 0), CONTENTS),
                         [[0, 1, 11], [0, 1], [0, 2, 14], [0, 2, 4, 6]])

    def test_the_same_key_twice(self):
        for changes, after in (([3, 1, 5, 3, 1, 6], [3, 6]), ([3, 1, 5, 3, 0, 0], []), ([3, 0, 0, 3, 1, 5], [3, 5])):
            self.assertEqual(ask(tick(-1, *changes), CONTENTS, CUT, RECOVER, CONTENTS),
                             [[0, 1, 14], [0, 1] + after, [0], [0, 0, 1, 1, 0], [0, 1] + after])

    def test_numbers_of_ticks(self):
        given = ask(*[tick(-1) for number in range(70)])
        self.assertEqual(given, [[0, number, 8 if number < 64 else 9] for number in range(1, 71)])

    def test_a_refused_tick_has_no_number(self):
        self.assertEqual(ask(tick(-1), tick(-1, 64, 1, 1), tick(-2), tick(-1)), [[0, 1, 8], [-1], [-1], [0, 2, 8]])


class Power(unittest.TestCase):
    def test_enough(self):
        for power in (-1, 11, 12, 100000):
            self.assertEqual(ask(tick(power, 3, 1, 5), CONTENTS), [[0, 1, 11], [0, 1, 3, 5]], power)

    def test_not_enough(self):
        for power in range(11):
            self.assertEqual(ask(tick(power, 3, 1, 5), CONTENTS, RECOVER, CONTENTS, tick(-1, 4, 1, 6), CONTENTS),
                             [[0, -1, 11], [-7], [0, 0, 0, 0, power], [0, 0], [0, 1, 11], [0, 1, 4, 6]], power)

    def test_outside_the_range(self):
        for power in OUTSIDE:
            self.assertEqual(ask(tick(power, 3, 1, 5), CONTENTS), [[-1], [0, 0]], power)

    def test_the_limit_applies_to_one_operation(self):
        self.assertEqual(ask(tick(11, 3, 1, 5), tick(11, 3, 1, 6), tick(-1), tick(8)),
                         [[0, 1, 11], [0, 2, 11], [0, 3, 8], [0, 4, 8]])

    def test_torn_behind_other_ticks(self):
        before = (tick(-1, 3, 1, 5), tick(-1, 4, 1, 6))
        for power in range(11):
            self.assertEqual(ask(*before, tick(power, 3, 0, 0), RECOVER, CONTENTS, CUT, RECOVER)[2:],
                             [[0, -1, 11], [0, 0, 2, 2, power], [0, 2, 3, 5, 4, 6], [0], [0, 0, 2, 2, 0]])

    def test_while_a_checkpoint_is_being_written(self):
        begun = (tick(-1, 3, 1, 5), BEGIN, tick(-1, 4, 1, 6))
        for power in (-1, 22, 23, 100000):
            self.assertEqual(last(*begun, tick(power, 3, 1, 7)), [0, 3, 22], power)
        for power in OUTSIDE:
            self.assertEqual(last(*begun, tick(power, 3, 1, 7)), [-1], power)

    def test_torn_while_a_checkpoint_is_being_written(self):
        for written in ((), (write(4),), (write(10),), (write(4), write(100000))):
            begun = (tick(-1, 3, 1, 5), BEGIN, tick(-1, 4, 1, 6)) + written
            for power in range(22):
                given = ask(*begun, tick(power, 3, 1, 7), RECOVER, CONTENTS, write(1))[len(begun):]
                if power < 11:
                    after = [[0, 0, 2, 2, power], [0, 2, 3, 5, 4, 6]]
                else:
                    # The active journal is written first, and has the whole tick.
                    after = [[0, 0, 3, 3, 0], [0, 3, 3, 7, 4, 6]]
                self.assertEqual(given, [[0, -1, 22]] + after + [[-3]], (written, power))

    def test_torn_while_side_1_is_active(self):
        begun = (tick(-1, 3, 1, 5), BEGIN, write(99), commit(-1), tick(-1, 4, 1, 6), BEGIN)
        for power in range(22):
            given = ask(*begun, tick(power, 3, 1, 7), RECOVER, CONTENTS)[len(begun):]
            after = [[0, 1, 2, 1, power], [0, 2, 3, 5, 4, 6]]
            if power >= 11:
                after = [[0, 1, 3, 2, 0], [0, 3, 3, 7, 4, 6]]
            self.assertEqual(given, [[0, -1, 22]] + after, power)

    def test_behind_a_checkpoint_only_one_journal_is_written(self):
        begun = (tick(-1, 3, 1, 5), BEGIN, write(99), commit(-1))
        self.assertEqual(last(*begun, tick(-1, 4, 1, 6)), [0, 2, 11])
        self.assertEqual(ask(tick(-1, 3, 1, 5), BEGIN, CUT, RECOVER, tick(-1, 4, 1, 6))[-1], [0, 2, 11])


if __name__ == "__main__":
    unittest.main()
