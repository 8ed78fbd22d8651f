"""The operations that show files, frames and the state, or corrupt a byte; each answers as the other operations do."""

from tickstore.frames import checksum, frame, valid_frames
from tickstore.limits import BAD_ARGUMENT, LONGEST_ROW, NO_POWER, NOT_THERE, is_byte, is_file
from tickstore.rows import is_tick_row
from tickstore.session import journal_file


def read_file(session, file_number):
    """Operation 9."""
    if not is_file(file_number):
        return [BAD_ARGUMENT]
    return [0] + session.files[file_number]


def corrupt_byte(session, file_number, position, byte):
    """Operation 10."""
    if not is_file(file_number) or not is_byte(byte):
        return [BAD_ARGUMENT]
    data = session.files[file_number]
    # Python would count a negative position from the file's end.
    if position < 0 or position >= len(data):
        return [NOT_THERE]
    data[position] = byte
    return [0]


def status(session):
    """Operation 12."""
    memory = session.memory
    if memory is None:
        return [0, 0, 0, 0, 0, 0, 0, session.durable_tick]
    is_checkpointing = 0
    pending_count = 0
    if memory.pending is not None:
        is_checkpointing = 1
        pending_count = len(memory.pending)
    state = [memory.tick_number, memory.side, memory.commit_number, is_checkpointing, pending_count]
    return [0, 1] + state + [session.durable_tick]


def count_frames(data):
    """Operation 13."""
    frames = valid_frames(data)
    byte_count = 0
    if len(frames) > 0:
        byte_count = frames[-1][1]
    return [0, len(frames), byte_count]


def list_ticks(session):
    """Operation 14."""
    memory = session.memory
    if memory is None:
        return [NO_POWER]
    answer = [0]
    for row, end in valid_frames(session.files[journal_file(memory.side)]):
        if is_tick_row(row):
            answer.append(row[0])
            answer.append((len(row) - 1) // 3)
    return answer


def show_checksum(data):
    """Operation 15."""
    return [0, checksum(data)]


def show_frame(row):
    """Operation 16."""
    if len(row) > LONGEST_ROW:
        return [BAD_ARGUMENT]
    return [0] + frame(row)
