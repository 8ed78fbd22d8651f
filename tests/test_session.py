"""The interface: the examples, the form of the calls and of the answers, calls without power, reset, get, contents."""

import unittest

from tests.calls import (BEGIN, BIG, CONTENTS, CUT, LIST_TICKS, RECOVER, RESET, STATUS, ask, checksum, commit, corrupt,
                         count_frames, frame, get, import_journal, last, preview, read_file, tick, write)
from tickstore import disk

EXAMPLES = (
    (tick(-1, 3, 1, 5), [0, 1, 11]),
    (read_file(2), [0, 0, 4, 0, 11, 2, 6, 2, 10, 0, 70, 165]),
    (get(3), [0, 5]),
    (tick(7, 3, 0, 0), [0, -1, 11]),
    (RECOVER, [0, 0, 1, 1, 7]),
    (CONTENTS, [0, 1, 3, 5]),
    (BEGIN, [0, 10]),
    (tick(-1, 4, 1, -1), [0, 2, 22]),
    (write(6), [0, 4]),
    (write(100), [0, 0]),
    (commit(-1), [0, 1, 2]),
    (STATUS, [0, 1, 2, 1, 2, 0, 0, 2]),
    (CUT, [0]),
    (RECOVER, [0, 1, 2, 1, 0]),
    (CONTENTS, [0, 2, 3, 5, 4, -1]),
)

# Each operation once, with power; the answers behind them.
EACH_CALL = (
    (tick(-1, 3, 1, 5), [0, 1, 11]),
    (BEGIN, [0, 10]),
    (write(99), [0, 0]),
    (commit(-1), [0, 1, 2]),
    (get(3), [0, 5]),
    (CONTENTS, [0, 1, 3, 5]),
    (read_file(3), [0]),
    (corrupt(0, 0, 7), [0]),
    (STATUS, [0, 1, 1, 1, 2, 0, 0, 1]),
    (count_frames([0, 0, 0, 3, 0, 0, 165, 0]), [0, 1, 7]),
    (LIST_TICKS, [0]),
    (checksum([5, 0]), [0, 8]),
    (frame([]), [0, 0, 0, 0, 3, 0, 0, 165]),
    (preview("1 3=5\n2 4=6\n"), [0, 1, 2, 3, 5, 4, 6]),
    (preview("1 3=5\n3 4=6\n"), [0, 0, 2]),
    (CUT, [0]),
    (RECOVER, [0, 1, 1, 0, 0]),
    (import_journal("1\n2 4=6\n"), [0, 2, 1]),
    (RESET, [0]),
)
# The answers of the same calls on a new disk without power.
WITHOUT_POWER = ([-7], [-7], [-7], [-7], [-7], [-7], [0], [0], [0, 0, 0, 0, 0, 0, 0, 0], [0, 1, 7], [-7], [0, 8],
                 [0, 0, 0, 0, 3, 0, 0, 165], [0, 1, 2, 3, 5, 4, 6], [0, 0, 2], [-7], [-6], [-7], [0])


class Examples(unittest.TestCase):
    def test_examples(self):
        self.assertEqual(len(EXAMPLES), 15)
        self.assertEqual(ask(*[call for call, answer in EXAMPLES]), [answer for call, answer in EXAMPLES])

    def test_the_first_examples_alone(self):
        for count in range(1, 16):
            self.assertEqual(ask(*[call for call, answer in EXAMPLES[:count]]),
                             [answer for call, answer in EXAMPLES[:count]])


class EachCall(unittest.TestCase):
    def test_with_power(self):
        self.assertEqual({call[0] for call, answer in EACH_CALL}, set(range(18)))
        self.assertEqual(ask(*[call for call, answer in EACH_CALL]), [answer for call, answer in EACH_CALL])

    def test_without_power(self):
        self.assertEqual(ask(CUT, *[call for call, answer in EACH_CALL])[1:], list(WITHOUT_POWER))

    def test_without_power_each_by_itself(self):
        for (call, answer), expected in zip(EACH_CALL, WITHOUT_POWER):
            if call == RECOVER:
                expected = [0, 0, 0, 0, 0]
            self.assertEqual(ask(CUT, call), [[0], expected], call)
            # A call that is refused, or only looks, leaves the power off.
            if call not in (RESET, RECOVER) and call[0] != 10:
                self.assertEqual(ask(CUT, call, STATUS, RECOVER)[2:], [[0] * 8, [0, 0, 0, 0, 0]], call)

    def test_calls_that_only_look_change_nothing(self):
        looks = [call for call, answer in EACH_CALL if call[0] in (7, 8, 9, 12, 13, 14, 15, 16, 17)]
        given = ask(*[call for example, answer in EXAMPLES for call in [example, *looks]])
        self.assertEqual(given[::len(looks) + 1], [answer for call, answer in EXAMPLES])


class Form(unittest.TestCase):
    def test_each_answer_stands_behind_its_length(self):
        calls = [number for call, answer in EXAMPLES for number in call]
        expected = [number for call, answer in EXAMPLES for number in [len(answer)] + answer]
        self.assertEqual(disk.answers(calls), expected)

    def test_the_length_of_each_call(self):
        for call, answer in (([0], [1, 0]), ([1, -1, 0], [3, 0, 1, 8]), ([2], [2, 0, 8]),
                             ([2, 3, 5], [2, 0, 8, 2, 0, 3]), ([4, 0], [1, -3]), ([5], [1, 0]), ([6], [1, -3]),
                             ([5, 6], [1, 0, 5, 0, 0, 0, 0, 0]), ([7, 0], [1, -4]), ([8], [2, 0, 0]),
                             ([1, 5, 1, 9, 8], [1, -1, 2, 0, 0]), ([9, 1], [1, 0]), ([9, 6, 8], [1, -1, 2, 0, 0]),
                             ([9, 0], [9, 0, 0, 1, 0, 5, 0, 0, 1, 165]), ([10, 0, 1, 2, 8], [1, 0, 2, 0, 0]),
                             ([10, 0, 8, 2, 8], [1, -4, 2, 0, 0]), ([11, 0, 8], [3, 0, 0, 0, 2, 0, 0]),
                             ([11, 2, 49, 10, 8], [3, 0, 1, 0, 2, 0, 1]), ([11, 1, 10, 8], [1, -2, 2, 0, 0]),
                             ([12], [8, 0, 1, 0, 0, 1, 0, 0, 0]), ([13, 0, 8], [3, 0, 0, 0, 2, 0, 0]),
                             ([13, 1, 9, 8], [3, 0, 0, 0, 2, 0, 0]), ([14, 8], [1, 0, 2, 0, 0]),
                             ([15, 0, 8], [2, 0, 0, 2, 0, 0]), ([15, 1, 9, 8], [2, 0, 10, 2, 0, 0]),
                             ([16, 0], [8, 0, 0, 0, 0, 3, 0, 0, 165]), ([16, 41] + [0] * 41 + [8], [1, -1, 2, 0, 0]),
                             ([17, 0, 8], [3, 0, 1, 0, 2, 0, 0]), ([17, 1, 10, 8], [3, 0, 0, 1, 2, 0, 0])):
            self.assertEqual(disk.answers(call), answer, call)

    def test_the_answers_are_whole_numbers_in_a_list(self):
        for table in (EXAMPLES, EACH_CALL):
            given = disk.answers([number for call, answer in table for number in call])
            self.assertIs(type(given), list)
            for number in given:
                self.assertIs(type(number), int)

    def test_what_is_handed_in_stays_as_it_is(self):
        for table in (EXAMPLES, EACH_CALL, ((CUT, [0]),) + EACH_CALL):
            calls = [number for call, answer in table for number in call]
            before = list(calls)
            disk.answers(calls)
            self.assertEqual(calls, before)

    def test_what_is_handed_in_is_not_changed_for_a_while_either(self):
        class Unchangeable(list):
            def refuse(self, *given):
                raise AssertionError("changed")

            __setitem__ = __delitem__ = __iadd__ = __imul__ = refuse
            append = extend = insert = pop = remove = clear = sort = reverse = refuse

        for table in (EXAMPLES, EACH_CALL):
            calls = [number for call, answer in table for number in call]
            self.assertEqual(disk.answers(Unchangeable(calls)), disk.answers(calls))

    def test_each_time_starts_anew(self):
        calls = [8, 1, -1, 3, 3, 1, 5, 8]
        first = disk.answers(calls)
        self.assertEqual(first, [2, 0, 0, 3, 0, 1, 11, 4, 0, 1, 3, 5])
        first.append(9)
        self.assertEqual(disk.answers(calls), [2, 0, 0, 3, 0, 1, 11, 4, 0, 1, 3, 5])
        disk.answers([1, -1, 0, 2, 3, 3, 5])
        self.assertEqual(disk.answers(calls), [2, 0, 0, 3, 0, 1, 11, 4, 0, 1, 3, 5])

    def test_each_time_starts_anew_behind_an_error(self):
        with self.assertRaises(disk.UnknownCall):
            disk.answers([1, -1, 3, 3, 1, 5, 18])
        self.assertEqual(disk.answers([8]), [2, 0, 0])

    def test_two_hundred_calls(self):
        ticks = [tick(-1, *[number % 64, 1, BIG] * 16) for number in range(198)]
        given = ask(*ticks, CUT, RECOVER)
        self.assertEqual(given[-1], [0, 0, 198, 198, 0])

    def test_two_hundred_calls_of_all_operations(self):
        # The table ends with a reset: each round answers the same.
        table = (EACH_CALL * 11)[:200]
        self.assertEqual(ask(*[call for call, answer in table]), [answer for call, answer in table])

    def test_as_many_numbers_as_may_be_handed_in(self):
        text = [49, 10] + [32] * 1998
        calls = [preview(text)] * 8 + [import_journal([49, 10] * 400), *[STATUS] * 100]
        self.assertLessEqual(sum(len(call) for call in calls), 17000)
        self.assertEqual(ask(*calls), [[0, 1, 1]] * 8 + [[-2]] + [[0, 1, 0, 0, 1, 0, 0, 0]] * 100)

    def test_long_answers(self):
        ticks = [tick(-1, *[number % 64, 1, BIG] * 16) for number in range(178)]
        given = ask(*ticks, *[read_file(2)] * 20, LIST_TICKS)
        for answer in given[178:198]:
            # 63 ticks with a number of one byte, 115 with a number of two.
            self.assertEqual(len(answer), 1 + 63 * 184 + 115 * 185)
        self.assertEqual(given[-1], [0] + [number for place in range(1, 179) for number in (place, 16)])


class Reset(unittest.TestCase):
    NEW = [[0, 0], [-4], [-3], [-3], [0, 8]]

    def new(self, *before):
        """What the calls that look at a new disk answer behind a reset."""
        return ask(*before, RESET, CONTENTS, get(3), write(1), RECOVER, BEGIN)[len(before) + 1:]

    def test_reset(self):
        one = tick(-1, 3, 1, 5)
        for before in ([], [one], [one, CUT], [one, BEGIN, write(3)], [one, BEGIN, write(99), commit(-1)],
                       [one, tick(3)], [one, BEGIN, write(99), commit(-1), CUT, RECOVER]):
            self.assertEqual(self.new(*before), self.NEW)

    def test_reset_answers_no_fields(self):
        self.assertEqual(ask(RESET, CUT, RESET), [[0], [0], [0]])

    def test_the_disk_is_new_too(self):
        before = [tick(-1, 3, 1, 5), BEGIN, write(99), commit(-1), BEGIN, write(99), commit(-1), RESET]
        self.assertEqual(ask(*before, CUT, RECOVER, CONTENTS)[-2:], [[0, 0, 0, 0, 0], [0, 0]])
        self.assertEqual(ask(*before, tick(-1), BEGIN, write(99), commit(-1))[-1], [0, 1, 2])


class Get(unittest.TestCase):
    def test_values(self):
        changes = tick(-1, 0, 1, BIG, 63, 1, -BIG, 5, 1, 0)
        self.assertEqual(ask(changes, get(0), get(63), get(5))[1:], [[0, BIG], [0, -BIG], [0, 0]])

    def test_no_such_key(self):
        self.assertEqual(ask(tick(-1, 3, 1, 5), get(4), get(63), get(64), get(BIG))[1:], [[-4]] * 4)
        self.assertEqual(last(tick(-1, 3, 1, 5, 3, 0, 0), get(3)), [-4])

    def test_negative_keys(self):
        self.assertEqual(ask(get(-1), get(-BIG)), [[-1], [-1]])


class Contents(unittest.TestCase):
    def test_keys_increase(self):
        calls = (tick(-1, 9, 1, 1, 0, 1, 2, 63, 1, 3), tick(-1, 8, 1, 4, 0, 0, 0, 10, 1, 5))
        self.assertEqual(last(*calls, CONTENTS), [0, 2, 8, 4, 9, 1, 10, 5, 63, 3])

    def test_new(self):
        self.assertEqual(last(CONTENTS), [0, 0])

    def test_all_keys(self):
        calls = [tick(-1, *[number for key in range(start, start + 16) for number in (key, 1, -key)])
                 for start in (48, 0, 32, 16)]
        expected = [0, 4] + [number for key in range(64) for number in (key, -key)]
        self.assertEqual(last(*calls, CONTENTS), expected)
        self.assertEqual(last(*calls, CUT, RECOVER, CONTENTS), expected)


class NoPower(unittest.TestCase):
    def test_each_call_without_power(self):
        for call in (tick(-1), tick(0), BEGIN, write(1), commit(-1), CUT, get(0), get(64), CONTENTS):
            self.assertEqual(ask(CUT, call, RECOVER), [[0], [-7], [0, 0, 0, 0, 0]], call)

    def test_arguments_are_checked_first(self):
        for call in (tick(-2), tick(100001), tick(-1, 1), tick(-1, 64, 1, 1), write(0), write(100001), commit(-2),
                     commit(100001), get(-1)):
            self.assertEqual(ask(CUT, call), [[0], [-1]], call)

    def test_power_is_checked_ahead_of_the_others(self):
        begun = (tick(-1, 3, 1, 5), BEGIN, CUT)
        self.assertEqual(ask(*begun, BEGIN, write(1), commit(-1), get(4))[3:], [[-7]] * 4)

    def test_recover_with_power(self):
        self.assertEqual(ask(RECOVER, CUT, RECOVER, RECOVER), [[-3], [0], [0, 0, 0, 0, 0], [-3]])

    def test_recover_with_power_changes_nothing(self):
        begun = (tick(-1, 3, 1, 5), BEGIN, write(4), RECOVER)
        self.assertEqual(ask(*begun, CONTENTS, write(6), commit(-1))[3:], [[-3], [0, 1, 3, 5], [0, 0], [0, 1, 2]])

    def test_power_fails_behind_each_operation(self):
        one = tick(-1, 3, 1, 5)
        for calls in ((one,), (one, BEGIN), (one, BEGIN, write(5)), (one, BEGIN, write(10))):
            self.assertEqual(ask(*calls, CUT, CUT, RECOVER, CONTENTS)[len(calls):],
                             [[0], [-7], [0, 0, 1, 1, 0], [0, 1, 3, 5]])


class UnknownCalls(unittest.TestCase):
    def test_a_number_of_no_operation(self):
        for number in (-1, 18, BIG):
            with self.assertRaises(disk.UnknownCall):
                disk.answers([number])


if __name__ == "__main__":
    unittest.main()
