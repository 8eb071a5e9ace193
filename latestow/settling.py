"""Settling, in hand: the pages and the sheets get their blocks."""

from latestow.room import free_of
from latestow.stow import placed


def placings(hand, paths):
    """For each of these files, by path: (path, the list of (page, block) that its pages would get)."""
    free = free_of(hand)
    told = []
    for path in sorted(paths):
        given = placed(free, hand.by_path[path].wanting())
        free = free.less([block for page, block in given])
        told.append((path, given))
    return told


def blocks_given(told):
    return [block for path, given in told for page, block in given]


def settle_sheets(hand, free):
    """Each file of the store keeps the sheets that it still needs; more are the least free blocks."""
    waiting = free.blocks()
    at = 0
    paths = sorted(hand.by_path)
    for path in paths:
        file = hand.by_path[path].copied()
        needed = file.sheets_needed()
        kept = file.sheets[:needed]
        more = needed - len(kept)
        file.settle_map(kept + waiting[at:at + more])
        at += more
        hand.by_path[path] = file


def settle_hand(hand, paths):
    """Settles these files; tells each (block, number) that is to be written."""
    told = placings(hand, paths)
    free = free_of(hand).less(blocks_given(told))
    written = []
    for path, given in told:
        file = hand.by_path[path].copied()
        written.extend(file.settle_pages(given))
        hand.by_path[path] = file
    settle_sheets(hand, free)
    hand.settle_laid()
    return written
