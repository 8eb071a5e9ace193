"""The keeper of a store: all deeds and questions."""

from latestow.bounds import PAGES
from latestow.checks import (
    check_bound, check_by, check_drop, check_file, check_many, check_more_files, check_more_folders, check_new_path,
    check_owner, check_pages, check_ticket, check_whose,
)
from latestow.errors import Gone, Stale, Unsettled
from latestow.files import WRITTEN, File
from latestow.limits import GRACE, Limits
from latestow.paperwork import census_of, plan_of, pledges_of
from latestow.room import behind_of, free_of, left_of, take_left, take_pledged, take_room
from latestow.settling import settle_hand
from latestow.store import come_up, write_down
from latestow.tree import ROOT, chain


class Mark:
    """How all stood in hand, and how many settlings the keeper had done then."""

    def __init__(self, hand, settlings):
        self.hand = hand
        self.settlings = settlings


def changed_by(file, deed):
    other = file.copied()
    deed(other)
    return other


class Keeper:
    """Keeps a store over a disk. What it does is in hand until it is settled."""

    def __init__(self, disk, *, grace=GRACE):
        self.disk = disk
        self.cuts_then = disk.cuts
        self.settlings = 0
        self.hand = come_up(disk, Limits(grace=grace))

    def stay_alive(self):
        """Refuses where the disk was cut: what is in hand is then no longer what the disk has."""
        if self.disk.cuts != self.cuts_then:
            raise Gone()

    def file_at(self, path):
        self.stay_alive()
        check_file(self.hand, path)
        return self.hand.by_path[path]

    def make(self, path, *, owner=0):
        """Makes an empty file."""
        self.stay_alive()
        check_new_path(self.hand, path)
        check_owner(owner)
        check_more_files(self.hand)
        self.hand.by_path[path] = File(owner)

    def fold(self, path):
        """Makes a folder."""
        self.stay_alive()
        check_new_path(self.hand, path)
        check_more_folders(self.hand)
        self.hand.made[path] = True

    def drop(self, path):
        """Takes a file or an empty folder away."""
        self.stay_alive()
        check_drop(self.hand, path)
        if path in self.hand.by_path:
            self.hand.lose_file(path)
        else:
            self.hand.made.pop(path)
            self.hand.rules.rule(path, 0)
        self.hand.note_charges()

    def change(self, path, deed, by):
        """Does a deed to a file's pages, where the limits and the room let it."""
        hand = self.hand
        file = hand.by_path[path]
        check_by(hand, by)
        changed = changed_by(file, deed)
        hand.ask_limits([file.owner] + chain(path), changed.charged() - file.charged())
        # What the same deed asks behind a settling may be more: what is late now is written then.
        later = file.as_if_settled()
        asked_later = changed_by(later, deed).room_taken() - later.room_taken()
        take_room(hand, changed.room_taken() - file.room_taken(), asked_later, by)
        self.put_file(path, changed)

    def put_file(self, path, file):
        self.hand.by_path[path] = file
        self.hand.note_charges()

    def write(self, path, page, values, *, by=None):
        """Writes the numbers of a list, from that page on."""
        self.file_at(path)
        check_pages(page, len(values))
        self.change(path, lambda file: file.make_late(page, values), by)

    def reserve(self, path, page, many, *, by=None):
        """Makes those of so many pages due that do not stand yet."""
        self.file_at(path)
        check_many(many, 0)
        check_pages(page, many)
        self.change(path, lambda file: file.make_due(page, many), by)

    def hole(self, path, page, many):
        """Takes so many pages away."""
        file = self.file_at(path)
        check_many(many, 0)
        check_pages(page, many)
        self.put_file(path, changed_by(file, lambda one: one.take_away(page, many)))

    def shorten(self, path, pages):
        """Takes all pages away from that one on."""
        file = self.file_at(path)
        check_pages(pages, 0)
        self.put_file(path, changed_by(file, lambda one: one.take_away(pages, PAGES - pages)))

    def twin(self, path, to, *, owner=None, by=None):
        """Makes a file with the written pages of another one, in the same blocks."""
        file = self.file_at(path)
        check_new_path(self.hand, to)
        whose = file.owner if owner is None else owner
        check_owner(whose)
        if not file.is_settled_wholly():
            raise Unsettled(path)
        check_more_files(self.hand)
        check_by(self.hand, by)
        other = file.twin_for(whose)
        self.hand.ask_limits([whose] + chain(to), other.charged())
        take_room(self.hand, other.room_taken(), other.room_taken(), by)
        self.put_file(to, other)

    def move(self, path, to):
        """Gives a file a new path."""
        file = self.file_at(path)
        check_new_path(self.hand, to)
        elder = chain(path)
        self.hand.ask_limits([folder for folder in chain(to) if folder not in elder], file.charged())
        self.hand.by_path.pop(path)
        self.put_file(to, file)

    def give(self, path, owner):
        """Gives a file to an owner."""
        file = self.file_at(path)
        check_owner(owner)
        if owner != file.owner:
            self.hand.ask_limits([owner], file.charged())
        other = file.copied()
        other.owner = owner
        self.put_file(path, other)

    def limit(self, whose, *, soft=None, hard=None):
        """Sets both limits of an owner or a folder anew; None is for none."""
        self.stay_alive()
        check_whose(self.hand, whose)
        check_bound(soft)
        check_bound(hard)
        self.hand.rules.rule(whose, self.hand.charged_to(whose), soft=soft, hard=hard)

    def tick(self, many=1):
        self.stay_alive()
        self.hand.rules.tick(many)

    def pledge(self, many):
        """Puts so many blocks by; tells the pledge's number."""
        self.stay_alive()
        check_many(many, 1)
        take_left(self.hand, many, many)
        return self.hand.new_ticket(many)

    def part(self, ticket, many):
        """Makes a part of a pledge a pledge of its own; tells its number."""
        self.stay_alive()
        check_ticket(self.hand, ticket)
        check_many(many, 1)
        take_pledged(self.hand, ticket, many)
        return self.hand.new_ticket(many)

    def release(self, ticket):
        """Lets a pledge go; tells how many blocks it still had."""
        self.stay_alive()
        check_ticket(self.hand, ticket)
        return self.hand.tickets.pop(ticket)

    def settle(self, path=None):
        """Settles one file, or all; everything else of the store comes to the disk with it."""
        self.stay_alive()
        paths = list(self.hand.by_path)
        if path is not None:
            check_file(self.hand, path)
            paths = [path]
        hand = self.hand.copied()
        written = settle_hand(hand, paths)
        write_down(self.disk, hand, written)
        self.hand = hand
        self.settlings += 1

    def mark(self):
        """A mark of how all stands in hand."""
        self.stay_alive()
        return Mark(self.hand.copied(), self.settlings)

    def back(self, mark):
        """All in hand stands as it did at the mark."""
        self.stay_alive()
        if mark.settlings != self.settlings:
            raise Stale()
        self.hand = mark.hand.copied()

    def files(self):
        self.stay_alive()
        return sorted(list(self.hand.by_path))

    def folders(self):
        self.stay_alive()
        return sorted([ROOT] + list(self.hand.made))

    def owner_of(self, path):
        return self.file_at(path).owner

    def number_at(self, file, page):
        if page in file.late:
            return file.late[page]
        if file.is_settled_as(page, WRITTEN):
            return self.disk.read(("block", file.places[page][0]))
        return 0

    def read(self, path, page, many=1):
        """The numbers of so many pages; 0 for one on which none was written."""
        file = self.file_at(path)
        check_many(many, 0)
        check_pages(page, many)
        return [self.number_at(file, one) for one in range(page, page + many)]

    def pages_of(self, path):
        """(page, word) for each page that stands."""
        file = self.file_at(path)
        return [(page, file.word_of(page)) for page in file.standing()]

    def runs_of(self, path):
        """The rows of the map of a file's settled pages."""
        return self.file_at(path).map_rows()

    def sheets_of(self, path):
        """The blocks of a file's sheets, as last settled."""
        return list(self.file_at(path).sheets)

    def charge_of(self, whose):
        self.stay_alive()
        check_whose(self.hand, whose)
        return self.hand.charged_to(whose)

    def left(self):
        self.stay_alive()
        return left_of(self.hand)

    def behind(self):
        """What would be left behind a settling of all files."""
        self.stay_alive()
        return behind_of(self.hand)

    def free(self):
        self.stay_alive()
        return free_of(self.hand)

    def pledges(self):
        self.stay_alive()
        return pledges_of(self.hand)

    def limits(self):
        self.stay_alive()
        return self.hand.rules.shown()

    def now(self):
        self.stay_alive()
        return self.hand.rules.now()

    def census(self):
        self.stay_alive()
        return census_of(self.hand)

    def plan(self):
        self.stay_alive()
        return plan_of(self.hand)
