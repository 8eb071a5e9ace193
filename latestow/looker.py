"""A looker over a disk: whether the counts on it are as the files' own rows tell."""

from latestow.errors import Unplayed
from latestow.store import counted, files_on, folders_on, is_unplayed, keys_of


def place_of(address):
    """Where a fault is told: holders by block, then owners by number, then folders by path."""
    word, key = address
    if word == "holders":
        return 0, key, ""
    if isinstance(key, int):
        return 1, key, ""
    return 2, 0, key


def number_in(row):
    """The number in a row of a count; a row that is bent in another way is told as it stands."""
    if isinstance(row, tuple) and len(row) == 1:
        return row[0]
    return row


def look(disk):
    """The faults of the counts: (word, key, told, counted), None where no row stands or none should."""
    if is_unplayed(disk):
        raise Unplayed()
    should = counted(files_on(disk), folders_on(disk))
    addresses = list(should)
    for word in ("holders", "charge"):
        addresses.extend([(word, key) for key in keys_of(disk, word) if (word, key) not in should])
    told = []
    for word, key in sorted(addresses, key=place_of):
        row = disk.read((word, key))
        right = should.get((word, key))
        if row != right:
            told.append((word, key, number_in(row), number_in(right)))
    return told


def mend(disk):
    """Puts the counts right; tells the faults as they were."""
    told = look(disk)
    for word, key, was, right in told:
        disk.put((word, key), None if right is None else (right,))
    if told:
        disk.barrier()
    return told
