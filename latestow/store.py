"""The rows of a store on its disk, and how a settling brings them there whole.

A settling first writes all its changes as one row, the log. From that writing on it is sure: whoever comes up
behind a cut does the changes of the log again, and it does not matter how many of them had come through.
"""

from latestow.files import WRITTEN, File
from latestow.hand import Hand
from latestow.maps import charge, packed, places_of, unpacked
from latestow.tree import ROOT, chain

LOG = ("log",)
TIME = ("time",)
# The first things of all other addresses of the store; the second one is a path, an owner or a block.
WORDS = ("file", "folder", "limit", "charge", "holders", "block")


def is_unplayed(disk):
    """Whether a settling is sure and not wholly done."""
    return disk.read(LOG) is not None


def play(disk):
    """Does the changes of the log, again where they were done in part."""
    told = disk.read(LOG)
    for address, row in told:
        disk.put(address, row)
    disk.barrier()
    disk.put(LOG, None)
    disk.barrier()


def keys_of(disk, word):
    """The second things of all addresses that begin with a word."""
    return [address[1] for address in disk.addresses() if len(address) == 2 and address[0] == word]


def file_row(file):
    first, others = packed(file.map_rows())
    return file.owner, first, tuple(file.sheets)


def read_file(disk, path):
    owner, first, sheets = disk.read(("file", path))
    file = File(owner)
    file.places = places_of(unpacked(first, [disk.read(("block", block)) for block in sheets]))
    file.settle_map(sheets)
    return file


def files_on(disk):
    return {path: read_file(disk, path) for path in keys_of(disk, "file")}


def folders_on(disk):
    """All folders, with the root."""
    return [ROOT] + keys_of(disk, "folder")


def add_to(counts, address, many):
    counts[address] = counts.get(address, 0) + many


def counted(files, folders):
    """The rows of charges and of holders as they should be for files as they are settled."""
    counts = {("charge", folder): 0 for folder in folders}
    for path in files:
        file = files[path]
        for whose in [file.owner] + chain(path):
            add_to(counts, ("charge", whose), charge(file.before))
        for block in file.blocks_laid() + file.sheets:
            add_to(counts, ("holders", block), 1)
    return {address: (counts[address],) for address in counts}


def name_rows(hand):
    """The rows of names, files, limits and the time."""
    rows = {TIME: hand.rules.now()}
    for path in hand.made:
        rows[("folder", path)] = 1
    for path in hand.by_path:
        rows[("file", path)] = file_row(hand.by_path[path])
    for whose, soft, hard, began in hand.rules.shown():
        rows[("limit", whose)] = (soft, hard, began)
    return rows


def add_blocks(rows, disk, hand, written):
    """The rows of blocks: what was written stays, besides what is written now and the sheets."""
    for file in hand.file_list():
        for page in file.places:
            if file.is_settled_as(page, WRITTEN):
                address = ("block", file.places[page][0])
                rows[address] = disk.read(address)
        first, others = packed(file.map_rows())
        for block, sheet in zip(file.sheets, others):
            rows[("block", block)] = sheet
    for block, number in written:
        rows[("block", block)] = number


def changes(disk, rows):
    """The list of (address, row) that makes the store's rows on the disk be just these."""
    told = [(address, rows[address]) for address in rows if disk.read(address) != rows[address]]
    for word in WORDS:
        for key in keys_of(disk, word):
            if (word, key) not in rows:
                told.append(((word, key), None))
    return told


def write_down(disk, hand, written):
    """Brings what is settled in hand to the disk, with the numbers that are to be written."""
    rows = name_rows(hand)
    rows.update(counted(hand.by_path, [ROOT] + list(hand.made)))
    add_blocks(rows, disk, hand, written)
    disk.put(LOG, tuple(changes(disk, rows)))
    disk.barrier()
    play(disk)


def limits_on(disk):
    rows = []
    for whose in keys_of(disk, "limit"):
        soft, hard, began = disk.read(("limit", whose))
        rows.append((whose, soft, hard, began))
    return rows


def come_up(disk, rules):
    """What stands in hand over a disk, behind whatever cut; a disk without any settling is a new store."""
    if is_unplayed(disk):
        play(disk)
    hand = Hand(disk.size, rules)
    if disk.read(TIME) is None:
        return hand
    hand.made = {path: True for path in keys_of(disk, "folder")}
    hand.by_path = files_on(disk)
    hand.settle_laid()
    rules.bring_up(disk.read(TIME), limits_on(disk))
    hand.note_charges()
    return hand
