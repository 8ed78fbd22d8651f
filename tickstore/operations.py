"""The operations of the store itself; each answers the list of its numbers, or one code below 0 and changes nothing."""

from tickstore.frames import frame
from tickstore.limits import BAD_ARGUMENT, CHANGES_OF_A_TICK, LARGEST, NO_POWER, NOT_NOW, NOT_THERE
from tickstore.limits import NOTHING_TO_RECOVER, TOO_LARGE, UNLIMITED, is_count, is_power
from tickstore.recovery import recovered
from tickstore.rows import are_changes, changed_entries, checkpoint_row, entry_numbers, tick_row
from tickstore.session import checkpoint_file, commit_file, journal_file


def writable_count(power, byte_count):
    """How many of these bytes there is power for."""
    if power == UNLIMITED:
        return byte_count
    return min(power, byte_count)


def reset(session):
    """Operation 0."""
    session.start_anew(0, {})
    return [0]


def written_journals(memory):
    """The journal files to which a tick is appended, in this order."""
    if memory.pending is None:
        return [journal_file(memory.side)]
    return [journal_file(memory.side), journal_file(1 - memory.side)]


def append_to_journals(files, journals, data, byte_count):
    """Appends the data to one journal after the other, until this many bytes are written in all."""
    left = byte_count
    for journal in journals:
        part = data[:left]
        files[journal].extend(part)
        left -= len(part)


def is_tick_list(changes):
    """Whether a tick may be asked for with these changes."""
    return len(changes) <= 3 * CHANGES_OF_A_TICK and are_changes(changes)


def tick(session, power, changes):
    """Operation 1."""
    if not is_power(power) or not is_tick_list(changes):
        return [BAD_ARGUMENT]
    memory = session.memory
    if memory is None:
        return [NO_POWER]
    if memory.tick_number >= LARGEST:
        return [TOO_LARGE]
    number = memory.tick_number + 1
    data = frame(tick_row(number, changes))
    journals = written_journals(memory)
    needed = len(data) * len(journals)
    byte_count = writable_count(power, needed)
    append_to_journals(session.files, journals, data, byte_count)
    if byte_count < needed:
        session.memory = None
        return [0, -1, needed]
    memory.tick_number = number
    memory.entries = changed_entries(memory.entries, changes)
    session.durable_tick = number
    return [0, number, needed]


def begin_checkpoint(session):
    """Operation 2."""
    memory = session.memory
    if memory is None:
        return [NO_POWER]
    if memory.pending is not None:
        return [NOT_NOW]
    other = 1 - memory.side
    files = session.files
    files[checkpoint_file(other)] = []
    files[journal_file(other)] = []
    memory.pending = frame(checkpoint_row(memory.tick_number, memory.entries))
    return [0, len(memory.pending)]


def write_checkpoint(session, count):
    """Operation 3."""
    if not is_count(count):
        return [BAD_ARGUMENT]
    memory = session.memory
    if memory is None:
        return [NO_POWER]
    if memory.pending is None:
        return [NOT_NOW]
    place = checkpoint_file(1 - memory.side)
    files = session.files
    files[place].extend(memory.pending[:count])
    memory.pending = memory.pending[count:]
    return [0, len(memory.pending)]


def commit_checkpoint(session, power):
    """Operation 4."""
    if not is_power(power):
        return [BAD_ARGUMENT]
    memory = session.memory
    if memory is None:
        return [NO_POWER]
    if memory.pending is None or len(memory.pending) > 0:
        return [NOT_NOW]
    if memory.commit_number >= LARGEST:
        return [TOO_LARGE]
    number = memory.commit_number + 1
    other = 1 - memory.side
    data = frame([number, other])
    byte_count = writable_count(power, len(data))
    files = session.files
    files[commit_file(number)] = data[:byte_count]
    if byte_count < len(data):
        session.memory = None
        return [0, -1, len(data)]
    memory.side = other
    memory.commit_number = number
    memory.pending = None
    return [0, other, number]


def cut_power(session):
    """Operation 5."""
    if session.memory is None:
        return [NO_POWER]
    session.memory = None
    return [0]


def recover(session):
    """Operation 6."""
    if session.memory is not None:
        return [NOT_NOW]
    found = recovered(session.files)
    if found is None:
        return [NOTHING_TO_RECOVER]
    memory = found.memory
    files = session.files
    place = journal_file(memory.side)
    dropped_count = len(files[place]) - found.byte_count
    files[place] = files[place][:found.byte_count]
    session.memory = memory
    session.durable_tick = memory.tick_number
    return [0, memory.side, memory.tick_number, found.tick_count, dropped_count]


def get_value(session, key):
    """Operation 7."""
    if key < 0:
        return [BAD_ARGUMENT]
    memory = session.memory
    if memory is None:
        return [NO_POWER]
    if key not in memory.entries:
        return [NOT_THERE]
    return [0, memory.entries[key]]


def contents(session):
    """Operation 8."""
    memory = session.memory
    if memory is None:
        return [NO_POWER]
    return [0, memory.tick_number] + entry_numbers(memory.entries)
