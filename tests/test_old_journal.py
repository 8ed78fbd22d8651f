"""The old text format, by operation 17; and operations 11 and 17 themselves."""

import random
import re
import unittest

from tests.calls import (BEGIN, BIG, CONTENTS, CUT, LIST_TICKS, RECOVER, RESET, STATUS, ask, commit, corrupt, get,
                         import_journal, last, overwrite, preview, read_file, text_bytes, tick, write)
from tests.hand import frame_of

FIRST = tick(-1, 3, 1, 5)
WHOLE = (BEGIN, write(99), commit(-1))
ALL_FILES = [read_file(file) for file in range(6)]
LOOKS = [*ALL_FILES, STATUS, CONTENTS]
VALID_CHANGE = re.compile(r"(0|[1-9][0-9]?)(!|=(0|-?[1-9][0-9]{0,18}))\Z")


def lines(count):
    """This many lines without changes."""
    return "".join(f"{number}\n" for number in range(1, count + 1))


class Texts(unittest.TestCase):
    def check_valid(self, text, *numbers):
        """The last tick number and the entries, in preview_import and in import_journal."""
        self.assertEqual(last(preview(text)), [0, 1, *numbers], text)
        self.assertEqual(ask(import_journal(text), CONTENTS), [[0, numbers[0], len(numbers) // 2], [0, *numbers]], text)

    def check_invalid(self, text, line):
        """The first invalid line."""
        self.assertEqual(last(preview(text)), [0, 0, line], text)
        self.assertEqual(ask(FIRST, import_journal(text), CONTENTS)[1:], [[-2], [0, 1, 3, 5]], text)

    def check_change(self, change, *numbers):
        """A valid change, by itself, ahead of others and behind them."""
        self.check_valid(f"1 {change}\n", 1, *numbers)
        self.check_valid(f"1\n2 63! {change} 63!\n", 2, *numbers)

    def check_wrong_change(self, change):
        """An invalid change, by itself, ahead of others and behind them."""
        self.check_invalid(f"1 {change}\n", 1)
        self.check_invalid(f"1 2=3\n2 2=4 {change} 2=5\n3\n", 2)


class Lines(Texts):
    def test_no_lines(self):
        for text in ("", "1", "1 3=5", "x", " ", "1 3=", [0], [13], [255] * 50):
            self.check_valid(text, 0)

    def test_lines_without_changes(self):
        self.check_valid("1\n", 1)
        self.check_valid("1\n2\n3\n", 3)
        self.check_valid(lines(100), 100)

    def test_bytes_behind_the_last_line_feed(self):
        for behind in ("2", "2 3=6", "x", " ", "7", "1 3=", "!", "9 64=1"):
            self.check_valid("1 3=5\n" + behind, 1, 3, 5)
        self.check_valid(text_bytes("1 3=5\n") + [0, 255, 13], 1, 3, 5)

    def test_an_empty_line(self):
        self.check_invalid("\n", 1)
        self.check_invalid("\n1\n", 1)
        self.check_invalid("1\n\n", 2)
        self.check_invalid("1\n\n2\n", 2)
        self.check_invalid("1\n2\n\n\n", 3)

    def test_numbers_of_ticks(self):
        self.check_invalid("0\n", 1)
        self.check_invalid("2\n", 1)
        self.check_invalid("1\n1\n", 2)
        self.check_invalid("1\n3\n", 2)
        self.check_invalid("1\n2\n2\n", 3)
        self.check_invalid(lines(9) + "11\n", 10)
        self.check_invalid(lines(9) + "1\n", 10)
        self.check_invalid(lines(9) + "010\n", 10)

    def test_forms_of_the_number_of_a_tick(self):
        for number in ("00", "01", "001", "-0", "-1", "+1", "-", "", "1.", "1a", "a", "1!", "1=5", "!", "=", "3=5",
                       "0" * 18 + "1", "0" * 19 + "1", "1" * 19, "1" * 20, "1" + "0" * 18, str(2 ** 64 + 1)):
            self.check_invalid(number + "\n", 1)
            self.check_invalid(number + " 3=5\n", 1)
            self.check_invalid("1\n" + number + " 3=5\n", 2)

    def test_no_number_of_a_tick(self):
        self.check_invalid("3=5\n", 1)
        self.check_invalid("1\n3=5 2\n", 2)

    def test_blanks(self):
        for line in (" 1", "1 ", "1  3=5", "1 3=5 ", " 1 3=5", "1 3=5  4=6", " ", "  ", "1  ", "1 3 =5", "1 3= 5",
                     "1 3 !", "1 - 5"):
            self.check_invalid(line + "\n", 1)
        self.check_invalid("1 3=5\n2 \n", 2)
        self.check_invalid("1 3=5 \n2\n", 1)

    def test_sixteen_and_seventeen_changes(self):
        sixteen = " ".join(f"{key}={key - 8}" for key in range(16))
        entries = [number for key in range(16) for number in (key, key - 8)]
        self.check_valid(f"1 {sixteen}\n", 1, *entries)
        self.check_valid(f"1 {sixteen}\n2 {sixteen}\n", 2, *entries)
        self.check_invalid(f"1 {sixteen} 16=1\n", 1)
        self.check_invalid(f"1 {sixteen} 15!\n", 1)
        self.check_invalid(f"1 {sixteen}\n2 {sixteen} 5=5\n", 2)
        self.check_valid("1" + " 5!" * 16 + "\n", 1)
        self.check_invalid("1" + " 5!" * 17 + "\n", 1)

    def test_the_first_invalid_line_is_told(self):
        self.check_invalid("1\n2 64=1\n3\n5\n\n", 2)
        self.check_invalid("1\n2\n4\n3 x\n", 3)
        self.check_invalid("2\n2\n", 1)
        self.check_invalid(lines(50) + "51 3=05\n52 3=05\n", 51)

    def test_long_texts(self):
        self.check_valid("1\n" + " " * 1998, 1)
        self.check_invalid("1" + " " * 1998 + "\n", 1)
        self.check_invalid("1\n" + "\n" * 1998, 2)
        self.check_invalid("1\n" * 1000, 2)
        self.check_valid(lines(600)[:2000], 527)


class Changes(Texts):
    def test_values(self):
        for value in (0, 5, 10, -1, -10, 100, BIG, -BIG, BIG - 1, 1 - BIG, 999999999999999999):
            self.check_change(f"3={value}", 3, value)

    def test_values_outside_the_range(self):
        for value in (BIG + 1, -BIG - 1, 10 ** 19 - 1, 1 - 10 ** 19, 10 ** 19, -10 ** 19, 2 ** 63, 2 ** 64 + 5):
            self.check_wrong_change(f"3={value}")

    def test_keys(self):
        for key in (0, 1, 9, 10, 62, 63):
            self.check_valid(f"1 {key}=5\n", 1, key, 5)
            self.check_valid(f"1 {key}=5\n2 {key}!\n", 2)
        for key in (64, 65, 99, 100, BIG, 10 ** 19 - 1, 10 ** 19, 10 ** 20, 2 ** 64):
            for change in (f"{key}=5", f"{key}!", f"-{key}=5", f"-{key}!"):
                self.check_wrong_change(change)

    def test_forms_of_numbers(self):
        for number in ("00", "01", "05", "-0", "-00", "-05", "+5", "-", "--5", "+0", "", "5-", "5.", "0x5", "5e1",
                       "1_0", "'5", "0" * 19, "0" * 18 + "5", "0" * 20, "-" + "0" * 19):
            for change in (f"3={number}", f"{number}=5", f"{number}!"):
                self.check_wrong_change(change)
        for number in ("-5", "-1", "-63"):
            self.check_wrong_change(f"{number}=5")
            self.check_wrong_change(f"{number}!")
        self.check_change("0=0", 0, 0)

    def test_forms_of_changes(self):
        for change in ("3=", "=5", "3==5", "3=5=6", "3=5=", "=3=5", "3!5", "3=5!", "3!=5", "!", "=", "3!!", "!3", "!3!",
                       "=!", "3", "-", "3=!", "3=5,4=6", "3:5", "3=5!4=6", "3=-", "3=5-6", "(3=5)", "=", "3=5\t"):
            self.check_wrong_change(change)

    def test_bytes_that_are_no_digit(self):
        for byte in (0, 9, 11, 13, 31, 33, 43, 44, 46, 47, 58, 61, 127, 128, 160, 176, 178, 255):
            for text, place in (("1 3=5\n", 0), ("1 3=5\n", 2), ("1 3=5\n", 4), ("1 3=55\n", 5), ("1 13=5\n", 3),
                                ("1 3!\n", 2)):
                data = text_bytes(text)
                self.check_invalid(data[:place] + [byte] + data[place + 1:], 1)
                self.check_invalid(data[:place] + [byte] + data[place:], 1)

    def test_each_byte_in_the_place_of_each(self):
        right = {0: "1", 1: " ", 2: "0123456789", 3: "=", 4: "0123456789"}
        for place, signs in right.items():
            for byte in range(256):
                data = text_bytes("1 3=5\n")
                data[place] = byte
                if byte == 10:
                    # The line ends earlier: behind its number it is valid, and what follows is not.
                    self.check_invalid(data, 2 if place == 1 else 1)
                elif byte in text_bytes(signs):
                    self.check_valid(data, 1, data[2] - 48, data[4] - 48)
                else:
                    self.check_invalid(data, 1)

    def test_removals(self):
        self.check_change("3!")
        self.check_change("0!")
        self.check_valid("1 3=5 4=6\n2 3!\n", 2, 4, 6)
        self.check_valid("1 3=5 3!\n", 1)
        self.check_valid("1 3! 3=5\n", 1, 3, 5)
        self.check_valid("1 4=6\n2 3!\n3 3! 3!\n", 3, 4, 6)

    def test_a_key_set_removed_and_set_again(self):
        self.check_valid("1 3=5 3! 3=6\n", 1, 3, 6)
        self.check_valid("1 3=5\n2 3!\n3 3=6\n", 3, 3, 6)
        self.check_valid("1 3=5\n2 3=6 3=7\n3 3=8\n", 3, 3, 8)
        self.check_valid("1 9=1 3=5\n2 9!\n3 9=2\n", 3, 3, 5, 9, 2)

    def test_keys_increase(self):
        self.check_valid("1 63=1 0=2 10=3 9=4\n2 1=5\n", 2, 0, 2, 1, 5, 9, 4, 10, 3, 63, 1)
        text = "".join(f"{number} {64 - number}=-{number}\n" for number in range(1, 65))
        self.check_valid(text, 64, *[number for key in range(64) for number in (key, key - 64)])

    def test_random_changes(self):
        dice = random.Random(7)
        for number in range(4000):
            change = "".join(dice.choice("0123456790=!-=6") for place in range(dice.choice((2, 3, 4, 5, 22))))
            if dice.randrange(2):
                change = f"{dice.randrange(70)}={dice.choice(('', '-'))}" + change.replace("=", "").replace("!", "")
            match = VALID_CHANGE.match(change)
            if match is None or int(match[1]) > 63 or match[3] is not None and abs(int(match[3])) > BIG:
                self.check_invalid(f"1 {change}\n", 1)
            elif match[2] == "!":
                self.check_valid(f"1 {change}\n", 1)
            else:
                self.check_valid(f"1 {change}\n", 1, int(match[1]), int(match[3]))


class Import(unittest.TestCase):
    TEXT = "1 3=7 9=-1\n2 9! 60=4\n3\n"
    FILES = [frame_of([3, 3, 7, 60, 4]), [], [], [], [], frame_of([1, 0])]
    BEFORE = ((), (FIRST,), (FIRST, BEGIN), (FIRST, BEGIN, write(4), tick(-1)), (FIRST, BEGIN, write(99)),
              (FIRST, *WHOLE, tick(-1)), (FIRST, *WHOLE, *WHOLE, BEGIN), (FIRST, CUT, RECOVER),
              (corrupt(0, 0, 9), corrupt(5, 0, 9)), (tick(3, 3, 1, 5), RECOVER), (import_journal("1 5=5\n"), FIRST))

    def test_what_is_there_afterwards(self):
        for before in self.BEFORE:
            given = ask(*before, import_journal(self.TEXT), *LOOKS)[len(before):]
            self.assertEqual(given, [[0, 3, 2]] + [[0] + data for data in self.FILES]
                             + [[0, 1, 3, 0, 1, 0, 0, 3], [0, 3, 3, 7, 60, 4]], before)

    def test_what_is_recovered_afterwards(self):
        for before in self.BEFORE:
            given = ask(*before, import_journal(self.TEXT), CUT, STATUS, RECOVER, STATUS, CONTENTS)[len(before):]
            self.assertEqual(given[1:], [[0], [0, 0, 0, 0, 0, 0, 0, 3], [0, 0, 3, 0, 0], [0, 1, 3, 0, 1, 0, 0, 3],
                                         [0, 3, 3, 7, 60, 4]])

    def test_ticks_and_checkpoints_go_on(self):
        given = ask(import_journal(self.TEXT), tick(-1, 3, 0, 0), LIST_TICKS, write(1), commit(-1), *WHOLE,
                    tick(-1, 4, 1, 6), CUT, RECOVER, CONTENTS, get(3))
        self.assertEqual(given[1:], [[0, 4, 11], [0, 4, 1], [-3], [-3], [0, 10], [0, 0], [0, 1, 2], [0, 5, 11], [0],
                                     [0, 1, 5, 1, 0], [0, 5, 4, 6, 60, 4], [-4]])

    def test_a_torn_tick_behind_it(self):
        given = ask(import_journal(self.TEXT), tick(5, 3, 0, 0), STATUS, RECOVER, CONTENTS)
        self.assertEqual(given[1:], [[0, -1, 11], [0, 0, 0, 0, 0, 0, 0, 3], [0, 0, 3, 0, 5], [0, 3, 3, 7, 60, 4]])

    def test_no_lines(self):
        for text in ("", "1 3=5", "x"):
            self.assertEqual(ask(FIRST, *WHOLE, import_journal(text), *LOOKS)[4:], [[0, 0, 0]] + ask(*LOOKS))

    def test_the_durable_tick_may_be_smaller(self):
        given = ask(FIRST, tick(-1), tick(-1), STATUS, import_journal("1\n"), STATUS, RESET, STATUS)
        self.assertEqual([answer[-1] for answer in given[3::2]], [3, 1, 0])

    def test_all_keys(self):
        parts = [" ".join(f"{key}={key - 99}" for key in range(start, start + 16)) for start in (48, 0, 32, 16)]
        text = "".join(f"{number} {part}\n" for number, part in enumerate(parts, start=1))
        entries = [number for key in range(64) for number in (key, key - 99)]
        self.assertEqual(ask(import_journal(text), CUT, RECOVER, CONTENTS, read_file(0)),
                         [[0, 4, 64], [0], [0, 0, 4, 0, 0], [0, 4] + entries, [0] + frame_of([4] + entries)])

    def test_no_power_goes_ahead_of_an_invalid_line(self):
        for text in ("", "1\n", "x\n", "2\n", "1 64=1\n"):
            self.assertEqual(ask(CUT, import_journal(text), STATUS), [[0], [-7], [0] * 8])
        self.assertEqual(ask(import_journal("x\n"), CUT, import_journal("x\n")), [[-2], [0], [-7]])

    def test_a_refusal_changes_nothing(self):
        for before in self.BEFORE:
            for text in ("x\n", "1 5=5\n2 5=05\n", "\n"):
                self.assertEqual(ask(*before, import_journal(text), *LOOKS)[len(before):],
                                 [[-2]] + ask(*before, *LOOKS)[len(before):])
            self.assertEqual(ask(*before, CUT, import_journal(self.TEXT), *LOOKS)[len(before) + 1:],
                             [[-7]] + ask(*before, CUT, *LOOKS)[len(before) + 1:])
        given = ask(FIRST, BEGIN, write(4), import_journal("x\n"), write(99), commit(-1), CUT, RECOVER)
        self.assertEqual(given[3:], [[-2], [0, 0], [0, 1, 2], [0], [0, 1, 1, 0, 0]])

    def test_it_mends_a_corrupted_disk(self):
        wrong = overwrite(0, [7] * 8) + overwrite(5, [7] * 9)
        self.assertEqual(ask(*wrong, import_journal("1 3=5\n"), CUT, RECOVER, CONTENTS)[-4:],
                         [[0, 1, 1], [0], [0, 0, 1, 0, 0], [0, 1, 3, 5]])


class Preview(unittest.TestCase):
    TEXTS = ("", "1 3=7 9=-1\n2 9! 60=4\n3\n", "1\n2 x\n", "\n")
    ANSWERS = [[0, 1, 0], [0, 1, 3, 3, 7, 60, 4], [0, 0, 2], [0, 0, 1]]

    def test_with_power_and_without(self):
        previews = [preview(text) for text in self.TEXTS]
        self.assertEqual(ask(*previews), self.ANSWERS)
        self.assertEqual(ask(CUT, *previews)[1:], self.ANSWERS)
        self.assertEqual(ask(FIRST, BEGIN, write(3), *previews)[3:], self.ANSWERS)

    def test_it_changes_nothing(self):
        previews = [preview(text) for text in self.TEXTS]
        for before in Import.BEFORE:
            for cut in ((), (CUT,)):
                calls = before + cut
                self.assertEqual(ask(*calls, *previews, *LOOKS)[-len(LOOKS):], ask(*calls, *LOOKS)[-len(LOOKS):])

    def test_it_begins_with_no_keys(self):
        self.assertEqual(last(FIRST, preview("1 4=6\n")), [0, 1, 1, 4, 6])
        self.assertEqual(ask(preview("1 4=6\n"), preview("1 5=7\n"))[1], [0, 1, 1, 5, 7])


if __name__ == "__main__":
    unittest.main()
