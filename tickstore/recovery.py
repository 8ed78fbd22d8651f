"""What can be recovered from the files of a disk."""

from tickstore.frames import valid_frames
from tickstore.rows import changed_entries, checkpoint_entries, is_tick_row, read_checkpoint, read_commit
from tickstore.session import Memory, checkpoint_file, commit_file, journal_file


class Recovery:
    """The memory as recovered, and how many ticks and bytes of the journal were replayed for it."""

    def __init__(self, memory, tick_count, byte_count):
        self.memory = memory
        self.tick_count = tick_count
        self.byte_count = byte_count


def replayed_ticks(journal, checkpoint_number):
    """The row and the end of each tick that is replayed on a checkpoint of the tick with this number."""
    ticks = []
    number = checkpoint_number
    for row, end in valid_frames(journal):
        number += 1
        if not is_tick_row(row) or row[0] != number:
            return ticks
        ticks.append((row, end))
    return ticks


def recovered_side(files, side, commit_number):
    """What is recovered from a side that this commit record names, or None if the side is not readable."""
    checkpoint = read_checkpoint(files[checkpoint_file(side)])
    if checkpoint is None:
        return None
    tick_number = checkpoint[0]
    entries = checkpoint_entries(checkpoint)
    byte_count = 0
    ticks = replayed_ticks(files[journal_file(side)], tick_number)
    for row, end in ticks:
        tick_number = row[0]
        entries = changed_entries(entries, row[1:])
        byte_count = end
    return Recovery(Memory(tick_number, entries, side, commit_number), len(ticks), byte_count)


def commits_in_order(files):
    """The rows of the valid commit records, in the order in which recovery considers them."""
    even = read_commit(files[commit_file(0)])
    odd = read_commit(files[commit_file(1)])
    if even is None and odd is None:
        return []
    if odd is None:
        return [even]
    if even is None:
        return [odd]
    # Corrupted files may hold equal numbers: then the first file goes ahead.
    if odd[0] > even[0]:
        return [odd, even]
    return [even, odd]


def recovered(files):
    """What recovery finds on the disk, or None if nothing can be recovered."""
    for commit in commits_in_order(files):
        found = recovered_side(files, commit[1], commit[0])
        if found is not None:
            return found
    return None
