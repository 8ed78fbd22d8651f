"""What is kept between the calls: the files of the disk, the memory, and the durable tick."""

from tickstore.frames import frame
from tickstore.rows import checkpoint_row


def checkpoint_file(side):
    """The number of the checkpoint file of a side."""
    return side


def journal_file(side):
    """The number of the journal file of a side."""
    return 2 + side


def commit_file(number):
    """The number of the file in which the commit record with this number is stored."""
    return 4 + number % 2


def new_files(tick_number, entries):
    """The files of a new disk whose checkpoint has these entries after the tick with this number."""
    files = [[], [], [], [], [], []]
    files[checkpoint_file(0)] = frame(checkpoint_row(tick_number, entries))
    files[commit_file(1)] = frame([1, 0])
    return files


class Memory:
    """What the store knows while there is power."""

    def __init__(self, tick_number, entries, side, commit_number):
        self.tick_number = tick_number
        self.entries = entries
        self.side = side
        self.commit_number = commit_number
        # The bytes of the checkpoint's frame that are not written yet; None while no checkpoint is being written.
        self.pending = None


class Session:
    """The disk and the memory, which is None without power; the durable tick is no part of either."""

    def __init__(self):
        self.start_anew(0, {})

    def start_anew(self, tick_number, entries):
        """Puts in a new disk with these entries after the tick with this number, which is durable."""
        self.files = new_files(tick_number, entries)
        self.memory = Memory(tick_number, entries, 0, 1)
        self.durable_tick = tick_number
