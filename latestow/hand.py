"""All that stands in hand of a store."""

from latestow.spans import Spans
from latestow.tree import ROOT, chain


def bears_charge(whose, path, owner):
    """Whether a file is charged to an owner or a folder."""
    if isinstance(whose, int):
        return whose == owner
    return whose in chain(path)


class Hand:
    """Names, files, limits and pledges. No file in it is changed where it stands, so a copy may share the files."""

    def __init__(self, size, rules):
        self.size = size
        self.rules = rules
        # Folders by path, without the root; files by path.
        self.made = {}
        self.by_path = {}
        # What the last settling left: the blocks in which pages lay, and the remains of files that are gone since.
        self.laid = Spans()
        self.lost = []
        self.tickets = {}
        self.last_ticket = 0

    def copied(self):
        other = Hand(self.size, self.rules.copied())
        other.made = dict(self.made)
        other.by_path = dict(self.by_path)
        other.laid = self.laid
        other.lost = list(self.lost)
        other.tickets = dict(self.tickets)
        other.last_ticket = self.last_ticket
        return other

    def has_folder(self, path):
        return path == ROOT or path in self.made

    def is_taken(self, path):
        return path in self.by_path or self.has_folder(path)

    def file_list(self):
        return [self.by_path[path] for path in self.by_path]

    def new_ticket(self, many):
        self.last_ticket += 1
        self.tickets[self.last_ticket] = many
        return self.last_ticket

    def lose_file(self, path):
        """Takes a file away. A younger one leaves nothing on the disk."""
        file = self.by_path.pop(path)
        if file.before > 0:
            self.lost.append(file.remains())

    def settle_laid(self):
        """The files as they are now are those of the last settling."""
        self.lost = []
        self.laid = Spans([block for file in self.file_list() for block in file.blocks_laid()])

    def charged_to(self, whose):
        return sum([self.by_path[path].charged() for path in self.by_path
                    if bears_charge(whose, path, self.by_path[path].owner)])

    def ask_limits(self, all_whose, more):
        """Refuses where one of these limits bars a charge that is so much greater; the first of them is told."""
        for whose in all_whose:
            if self.rules.has_bar(whose):
                was = self.charged_to(whose)
                self.rules.asks(whose, was, was + more)

    def note_charges(self):
        for whose, soft, hard, began in self.rules.shown():
            self.rules.note(whose, self.charged_to(whose))
