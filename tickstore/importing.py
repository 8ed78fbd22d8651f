"""The operations on journals of the old format; each answers as the other operations do."""

from tickstore.limits import INVALID_LINE, NO_POWER
from tickstore.old_journal import read_old_journal
from tickstore.rows import entry_numbers


def import_journal(session, text):
    """Operation 11."""
    if session.memory is None:
        return [NO_POWER]
    journal = read_old_journal(text)
    if journal.invalid_line is not None:
        return [INVALID_LINE]
    session.start_anew(journal.tick_number, journal.entries)
    return [0, journal.tick_number, len(journal.entries)]


def preview_import(text):
    """Operation 17."""
    journal = read_old_journal(text)
    if journal.invalid_line is not None:
        return [0, 0, journal.invalid_line]
    return [0, 1, journal.tick_number] + entry_numbers(journal.entries)
