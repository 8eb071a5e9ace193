"""What a file is in hand: its pages, and what the last settling left of it."""

from latestow.maps import charge, packed, runs_of, worst

ASIDE = 0
WRITTEN = 1


class File:
    """A file in hand. A deed changes a copy and puts that in its place, so that a refused deed changes nothing."""

    def __init__(self, owner):
        self.owner = owner
        # Numbers by page; the pages that are due; (block, kind) by page.
        self.late = {}
        self.due = {}
        self.places = {}
        # As the last settling left it: how many pages were settled, and the blocks of its sheets.
        self.before = 0
        self.sheets = []

    def copied(self):
        other = File(self.owner)
        other.late = dict(self.late)
        other.due = dict(self.due)
        other.places = dict(self.places)
        other.before = self.before
        other.sheets = list(self.sheets)
        return other

    def standing(self):
        """All pages that stand in any way, in order."""
        return sorted(set(self.late) | set(self.due) | set(self.places))

    def is_settled_as(self, page, kind):
        return page in self.places and self.places[page][1] == kind

    def wants(self, page):
        """Whether a page needs a block: what is set aside is written where it lies, what is written never is."""
        return page in self.due or (page in self.late and not self.is_settled_as(page, ASIDE))

    def wanting(self):
        return [page for page in self.standing() if self.wants(page)]

    def is_settled_wholly(self):
        return not self.late and not self.due

    def word_of(self, page):
        """How a page that stands is told."""
        if page in self.late:
            return "late"
        if page in self.due:
            return "due"
        if self.is_settled_as(page, WRITTEN):
            return "kept"
        return "aside"

    def blocks_laid(self):
        return [self.places[page][0] for page in self.places]

    def blocks_staying(self):
        """The blocks that a settling of this file would not let go."""
        return [self.places[page][0] for page in self.places
                if page not in self.late or self.is_settled_as(page, ASIDE)]

    def map_rows(self):
        return runs_of(self.places)

    def sheets_needed(self):
        first, others = packed(self.map_rows())
        return len(others)

    def charged(self):
        return charge(len(self.standing()))

    def sheets_for_all(self):
        """The sheets that are put by: for the pages now, and for those of which the disk still has the map."""
        return max(worst(len(self.standing())), worst(self.before))

    def room_taken(self):
        """What the file takes of the room, besides the blocks in which pages lay by the last settling."""
        return len(self.wanting()) + self.sheets_for_all()

    def make_late(self, page, values):
        for step, value in enumerate(values):
            self.late[page + step] = value
            self.due.pop(page + step, None)

    def make_due(self, page, many):
        stand = self.standing()
        for one in range(page, page + many):
            if one not in stand:
                self.due[one] = True

    def take_away(self, page, many):
        for one in range(page, page + many):
            self.late.pop(one, None)
            self.due.pop(one, None)
            self.places.pop(one, None)

    def settle_pages(self, given):
        """Lays the pages that want into their blocks, (page, block); tells each (block, number) to be written."""
        for page, block in given:
            self.places[page] = (block, ASIDE)
        written = []
        for page in sorted(self.late):
            block = self.places[page][0]
            self.places[page] = (block, WRITTEN)
            written.append((block, self.late[page]))
        self.late = {}
        self.due = {}
        return written

    def settle_map(self, sheets):
        """The map as it is now is that of the last settling, with its sheets in these blocks."""
        self.before = len(self.places)
        self.sheets = list(sheets)

    def remains(self):
        """What the disk still has of the file when it is gone."""
        other = File(self.owner)
        other.before = self.before
        other.sheets = list(self.sheets)
        return other

    def twin_for(self, owner):
        """A younger file with the written pages of this one, in the same blocks."""
        other = File(owner)
        for page in self.places:
            if self.is_settled_as(page, WRITTEN):
                other.places[page] = self.places[page]
        return other

    def as_if_settled(self):
        """A copy that counts as a settling would leave it; which blocks it would get does not matter for that."""
        other = self.copied()
        other.settle_pages([(page, 0) for page in other.wanting()])
        other.settle_map([])
        return other
