"""Packs of files by their names, and what can still be read of spoilt ones."""

from presshouse.entries import entry_at, entry_written, is_file, is_name, number_written
from presshouse.errors import BadBytes, BadFiles, BadName, BadPack

MOST_FILES = 40
END_BYTE = 90
# How many entries there are, in two bytes, and the last byte.
TAIL_BYTES = 3


def packed(files):
    """The pack of files, by a dict from names to bytes."""
    if not are_files(files):
        raise BadFiles("no dict of at most 40 files of at most 2000 bytes by names of 1 to 8 small letters")
    parts = []
    ahead = b""
    for name in files:
        parts.append(entry_written(name, files[name], ahead))
        ahead = files[name]
    return b"".join(parts) + tail_written(len(parts))


def listed(pack):
    """The names of a pack's files."""
    return list(files_of(pack))


def taken(pack, name):
    """A file of a pack."""
    files = files_of(pack)
    if not isinstance(name, str) or name not in files:
        raise BadName("none of the pack's files has this name")
    return files[name]


def saved(told):
    """All files by their names that can still be read of any bytes."""
    if not isinstance(told, bytes):
        raise BadBytes("no bytes")
    files = {}
    ahead = b""
    place = 0
    while place < len(told):
        entry = entry_at(told, place, ahead)
        if entry is None:
            place += 1
        else:
            name, ahead, place = entry
            files[name] = ahead
    return files


def are_files(told):
    """Whether these are files for a pack."""
    if not isinstance(told, dict) or len(told) > MOST_FILES:
        return False
    return all([is_name(name) and is_file(told[name]) for name in told])


def tail_written(many):
    """What stands behind so many entries."""
    return number_written(many) + bytes([END_BYTE])


def files_of(pack):
    """The files of a pack that is written as it must be."""
    if not isinstance(pack, bytes):
        raise BadPack("no bytes")
    files = {}
    ahead = b""
    place = 0
    while len(pack) - place > TAIL_BYTES:
        entry = entry_at(pack, place, ahead)
        if entry is None or entry[0] in files or len(files) == MOST_FILES:
            raise BadPack("an entry that can't be read, or one too many")
        name, ahead, place = entry
        files[name] = ahead
    if pack[place:] != tail_written(len(files)):
        raise BadPack("another end than two bytes for how many entries there are, and a last one")
    return files
