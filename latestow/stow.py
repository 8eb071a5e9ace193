"""Placing: which blocks the pages of a file get."""

from latestow.spans import stretches


def blocks_of(pieces):
    """The blocks of pieces, one by one, in the order of the pieces."""
    blocks = []
    for first, many in pieces:
        blocks.extend(list(range(first, first + many)))
    return blocks


def placed(free, pages):
    """A list of (page, block) by page: each run of pages takes its own pieces out of the free blocks."""
    told = []
    still_free = free
    for first, many in stretches(pages):
        blocks = blocks_of(still_free.pieces(many))
        told.extend([(first + step, block) for step, block in enumerate(blocks)])
        still_free = still_free.less(blocks)
    return told
