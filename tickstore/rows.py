"""What the rows of frames mean: changes and ticks, checkpoints, commit records."""

from tickstore.frames import only_row
from tickstore.limits import is_key, is_value


def is_change(key, choice, value):
    """Whether three integers are a change."""
    return is_key(key) and (choice == 0 or choice == 1) and is_value(value)


def are_changes(numbers):
    """Whether the integers are any number of changes."""
    if len(numbers) % 3 != 0:
        return False
    for start in range(0, len(numbers), 3):
        if not is_change(numbers[start], numbers[start + 1], numbers[start + 2]):
            return False
    return True


def changed_entries(entries, changes):
    """The entries after the changes, made in order; the entries that are given stay as they are."""
    after = dict(entries)
    for start in range(0, len(changes), 3):
        key = changes[start]
        if changes[start + 1] == 1:
            after[key] = changes[start + 2]
        elif key in after:
            after.pop(key)
    return after


def tick_row(number, changes):
    """The row of a tick."""
    row = [number]
    for start in range(0, len(changes), 3):
        row.append(changes[start])
        row.append(changes[start + 1])
        # A removal may be asked for with any value, but is written with 0.
        if changes[start + 1] == 1:
            row.append(changes[start + 2])
        else:
            row.append(0)
    return row


def is_tick_row(row):
    """Whether a row read from the disk is a tick, with however many changes."""
    return len(row) >= 1 and row[0] >= 1 and are_changes(row[1:])


def entry_numbers(entries):
    """The key and the value of each entry, by increasing keys."""
    numbers = []
    for key in sorted(entries):
        numbers.append(key)
        numbers.append(entries[key])
    return numbers


def checkpoint_row(number, entries):
    """The row of a checkpoint of these entries after the tick with this number."""
    return [number] + entry_numbers(entries)


def is_checkpoint_row(row):
    """Whether a row read from the disk is a checkpoint."""
    if len(row) % 2 != 1 or row[0] < 0:
        return False
    last_key = -1
    for start in range(1, len(row), 2):
        key = row[start]
        if key <= last_key or not is_key(key) or not is_value(row[start + 1]):
            return False
        last_key = key
    return True


def checkpoint_entries(row):
    """The entries of a checkpoint's row."""
    entries = {}
    for start in range(1, len(row), 2):
        entries[row[start]] = row[start + 1]
    return entries


def read_checkpoint(data):
    """The row of the valid checkpoint that a file contains, or None."""
    row = only_row(data)
    if row is None or not is_checkpoint_row(row):
        return None
    return row


def is_commit_row(row):
    """Whether a row read from the disk is a commit record."""
    return len(row) == 2 and row[0] >= 1 and (row[1] == 0 or row[1] == 1)


def read_commit(data):
    """The row of the valid commit record that a file contains, or None."""
    row = only_row(data)
    if row is None or not is_commit_row(row):
        return None
    return row
