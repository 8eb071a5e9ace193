"""Papers: a census of who holds the blocks and what is put by, and whether it and a plan hold."""

# Files that are gone are told as one, without a path; a pledge has none either.
NOBODY = ""
SHEET_PAGE = -1


def blocks_held(held):
    return len([holders for holders in held if holders != ()])


def blocks_put_by(put_by):
    return sum([pages + sheets for path, pages, sheets in put_by])


def blocks_pledged(pledged):
    return sum([many for ticket, many in pledged])


class Census:
    """Who holds each block, what is put by and pledged, and what is left."""

    def __init__(self, size, held, put_by, pledged, spare):
        self.size = size
        self.held = list(held)
        self.put_by = list(put_by)
        self.pledged = list(pledged)
        self.spare = spare

    def __len__(self):
        return len(self.held)

    def __eq__(self, other):
        return (isinstance(other, Census) and self.size == other.size and self.held == other.held
                and self.put_by == other.put_by and self.pledged == other.pledged and self.spare == other.spare)

    def __str__(self):
        return " + ".join([
            f"{self.size} = {blocks_held(self.held)} held",
            f"{blocks_put_by(self.put_by)} put by",
            f"{blocks_pledged(self.pledged)} pledged",
            f"{self.spare} left",
        ])


def adds_up(census):
    """Whether the blocks held, what is put by, pledged and left are together the disk."""
    if len(census.held) != census.size or census.spare < 0:
        return False
    named = blocks_held(census.held) + blocks_put_by(census.put_by) + blocks_pledged(census.pledged)
    return named + census.spare == census.size


def are_unlike(things):
    return len(set(things)) == len(things)


def is_free(census, block):
    return 0 <= block < len(census.held) and census.held[block] == ()


def add_to(tally, key, many):
    # What is nought has no entry, so that two tallies of the same things are equal.
    if many != 0:
        tally[key] = tally.get(key, 0) + many


def asked_tally(census):
    """How many blocks are put by for what: a file's pages, its sheets, a pledge."""
    tally = {}
    for path, pages, sheets in census.put_by:
        add_to(tally, ("pages", path), pages)
        add_to(tally, ("sheets", path), sheets)
    for ticket, many in census.pledged:
        add_to(tally, ("pledge", ticket), many)
    return tally


def key_of(path, page):
    """What a plan's row is for."""
    if page == SHEET_PAGE:
        return "sheets", path
    if path == NOBODY:
        return "pledge", page
    if page >= 0:
        return "pages", path
    return "nothing", path


def planned_tally(plan):
    tally = {}
    for path, page, block in plan:
        add_to(tally, key_of(path, page), 1)
    return tally


def bears(census, plan):
    """Whether the plan gives each thing that is put by a free block of its own, and nothing else."""
    blocks = [block for path, page, block in plan]
    if not are_unlike(blocks) or not all([is_free(census, block) for block in blocks]):
        return False
    pages = [(path, page) for path, page, block in plan if path != NOBODY and page >= 0]
    return are_unlike(pages) and planned_tally(plan) == asked_tally(census)
