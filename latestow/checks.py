"""What a deed is refused for ahead of limits and room."""

from latestow.bounds import FILES, FOLDERS, OWNERS, PAGES
from latestow.errors import BadMany, BadOwner, BadPage, BadPath, Crowded, NoFile, NoFolder, NoPledge, NotEmpty, Taken
from latestow.tree import ROOT, fits, parent


def check_path(path):
    if not fits(path):
        raise BadPath(path)


def check_below_root(path):
    if path == ROOT:
        raise BadPath(path)
    check_path(path)


def check_file(hand, path):
    check_path(path)
    if path not in hand.by_path:
        raise NoFile(path)


def check_new_path(hand, path):
    """A path at which a new thing may stand; the root has no folder, and is refused like what is no path."""
    folder = parent(path)
    if not hand.has_folder(folder):
        raise NoFolder(folder)
    if hand.is_taken(path):
        raise Taken(path)


def check_drop(hand, path):
    check_below_root(path)
    if not hand.is_taken(path):
        raise NoFile(path)
    below = [other for other in list(hand.by_path) + list(hand.made) if parent(other) == path]
    if below:
        raise NotEmpty(path)


def check_owner(owner):
    if owner < 0 or owner >= OWNERS:
        raise BadOwner(owner)


def check_whose(hand, whose):
    """An owner, or a folder that is there."""
    if isinstance(whose, int):
        check_owner(whose)
        return
    check_path(whose)
    if not hand.has_folder(whose):
        raise NoFolder(whose)


def check_more_files(hand):
    if len(hand.by_path) >= FILES:
        raise Crowded(FILES)


def check_more_folders(hand):
    if len(hand.made) >= FOLDERS:
        raise Crowded(FOLDERS)


def check_many(many, least):
    if many < least:
        raise BadMany(many)


def check_bound(bound):
    """A limit, or None for no limit."""
    if bound is not None:
        check_many(bound, 0)


def check_pages(page, many):
    """So many pages from that one on; none at all may begin right behind the last one."""
    if page < 0 or page + many > PAGES:
        raise BadPage(page)


def check_ticket(hand, ticket):
    if ticket not in hand.tickets:
        raise NoPledge(ticket)


def check_by(hand, by):
    """The pledge by which a deed is done; None for no pledge."""
    if by is not None:
        check_ticket(hand, by)
