"""Room: what is left now and behind a settling, and the taking of it."""

from latestow.errors import Dry, NoRoom
from latestow.maps import worst
from latestow.spans import Spans


def pledged_in_all(hand):
    return sum([hand.tickets[ticket] for ticket in hand.tickets])


def left_of(hand):
    """What is left now: nothing that a settling lets go is free ahead of it."""
    files = hand.file_list() + hand.lost
    return hand.size - len(hand.laid) - sum([file.room_taken() for file in files]) - pledged_in_all(hand)


def behind_of(hand):
    """What would be left behind a settling of all files."""
    blocks = []
    wanted = 0
    sheets = 0
    for file in hand.file_list():
        blocks.extend(file.blocks_staying())
        wanted += len(file.wanting())
        sheets += worst(len(file.standing()))
    return hand.size - len(set(blocks)) - wanted - sheets - pledged_in_all(hand)


def free_of(hand):
    """The blocks that nothing held at the last settling."""
    held = hand.laid.blocks()
    for file in hand.file_list() + hand.lost:
        held.extend(file.sheets)
    return Spans(list(range(hand.size))).less(held)


def take_left(hand, asked, asked_later):
    """Refuses what is more than is left; asked_later is what the same deed asks behind a settling of all."""
    there = left_of(hand)
    if asked > there:
        raise NoRoom(asked, there, asked_later <= behind_of(hand))


def take_pledged(hand, ticket, asked):
    """Takes room out of a pledge."""
    there = hand.tickets[ticket]
    if asked > there:
        raise Dry(ticket, asked, there)
    hand.tickets[ticket] = there - asked


def take_room(hand, asked, asked_later, by):
    if by is None:
        take_left(hand, asked, asked_later)
    else:
        take_pledged(hand, by, asked)
