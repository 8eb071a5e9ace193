"""The papers of a store in hand: its census and its plan."""

from latestow.papers import NOBODY, SHEET_PAGE, Census
from latestow.room import free_of, left_of
from latestow.settling import blocks_given, placings


def pledges_of(hand):
    return [(ticket, hand.tickets[ticket]) for ticket in sorted(hand.tickets)]


def holders_in(hand):
    """A dict from block to the list of the pages and sheets in it."""
    holders = {}
    for path in hand.by_path:
        file = hand.by_path[path]
        for page in file.places:
            holders.setdefault(file.places[page][0], []).append((path, page))
        for block in file.sheets:
            holders.setdefault(block, []).append((path, SHEET_PAGE))
    return holders


def held_in(hand):
    holders = holders_in(hand)
    free = free_of(hand)
    held = []
    for block in range(hand.size):
        if block in holders:
            held.append(tuple(sorted(holders[block])))
        elif free.has(block):
            held.append(())
        else:
            held.append(((NOBODY, SHEET_PAGE),))
    return held


def sheets_put_by(file):
    return file.sheets_for_all() - len(file.sheets)


def put_by_in(hand):
    """What is put by for the files that are gone, told as one, and for each file by path."""
    rows = [(NOBODY, 0, sum([sheets_put_by(file) for file in hand.lost]))]
    for path in sorted(hand.by_path):
        file = hand.by_path[path]
        rows.append((path, len(file.wanting()), sheets_put_by(file)))
    return [(path, pages, sheets) for path, pages, sheets in rows if pages + sheets > 0]


def census_of(hand):
    return Census(hand.size, held_in(hand), put_by_in(hand), pledges_of(hand), left_of(hand))


def things_beside_pages(hand):
    """What is put by besides pages, (path, page) for each block of it: sheets, then pledges."""
    things = []
    for path, pages, sheets in put_by_in(hand):
        things.extend([(path, SHEET_PAGE)] * sheets)
    for ticket, many in pledges_of(hand):
        things.extend([(NOBODY, ticket)] * many)
    return things


def plan_of(hand):
    """A free block for each thing that is put by; the pages get theirs as a settling of all would give them."""
    told = placings(hand, list(hand.by_path))
    plan = [(path, page, block) for path, given in told for page, block in given]
    waiting = free_of(hand).less(blocks_given(told)).blocks()
    for (path, page), block in zip(things_beside_pages(hand), waiting):
        plan.append((path, page, block))
    return plan
