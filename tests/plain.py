"""A store by the words of the document alone: slow, plain, and without any help of the package.

The tests hold the keeper against it.
"""

import copy


class Refused(Exception):
    """A deed that the document refuses, by the error's name and fields."""

    def __init__(self, name, *fields):
        Exception.__init__(self, name, *fields)
        self.name = name
        self.fields = fields

    def text(self):
        return " ".join([self.name, *[str(field) for field in self.fields]])


def worst(pages):
    return 0 if pages <= 3 else -(-(pages - 3) // 6)


def is_path(text):
    if text == "/":
        return True
    names = text.split("/")
    signs = "abcdefghijklmnopqrstuvwxyz0123456789"
    return (names[0] == "" and 2 <= len(names) <= 6
            and all(1 <= len(name) <= 8 and all(sign in signs for sign in name) for name in names[1:]))


def folder_of(path):
    return path.rsplit("/", 1)[0] or "/"


def chain(path):
    told = []
    while path != "/":
        path = folder_of(path)
        told.append(path)
    return told


def in_runs(numbers):
    runs = []
    for number in sorted(numbers):
        if runs and runs[-1][-1] + 1 == number:
            runs[-1].append(number)
        else:
            runs.append([number])
    return runs


def take(free, many):
    """Point 3: takes so many blocks out of a set, and tells them in the order of the pieces."""
    told = []
    while len(told) < many:
        rest = many - len(told)
        holding = [run for run in in_runs(free) if len(run) >= rest]
        if holding:
            piece = min(holding, key=lambda run: (len(run), run[0]))[:rest]
        else:
            piece = min(in_runs(free), key=lambda run: (-len(run), run[0]))
        told.extend(piece)
        free.difference_update(piece)
    return told


class Page:
    def __init__(self):
        self.late = None
        self.due = False
        self.block = None
        self.written = False

    def wants(self):
        return self.due or (self.late is not None and (self.block is None or self.written))

    def word(self):
        if self.late is not None:
            return "late"
        if self.due:
            return "due"
        return "kept" if self.written else "aside"


class PlainFile:
    def __init__(self, name, owner):
        # A number of its own, by which the last settling knows it whatever its path is.
        self.name = name
        self.owner = owner
        self.pages = {}

    def settled(self):
        return {page: row for page, row in self.pages.items() if row.block is not None}

    def rows(self):
        told = []
        for page, row in sorted(self.settled().items()):
            kind = 1 if row.written else 0
            if told and told[-1][0] + told[-1][2] == page and told[-1][1] + told[-1][2] == row.block \
                    and told[-1][3] == kind:
                told[-1] = (told[-1][0], told[-1][1], told[-1][2] + 1, kind)
            else:
                told.append((page, row.block, 1, kind))
        return told


class Plain:
    def __init__(self, size, grace=5):
        self.size = size
        self.grace = grace
        self.folders = set()
        self.files = {}
        self.names = 0
        self.limits = {}
        self.time = 0
        self.pledges = {}
        self.last_pledge = 0
        # What the last settling left: by file name its settled pages' number and its sheets; the blocks of pages.
        self.base = {}
        self.base_blocks = set()
        self.numbers = {}
        self.kept = None
        self.asks_for_help = True

    def clone(self):
        other = copy.copy(self)
        other.folders = set(self.folders)
        other.files = {}
        for path, file in self.files.items():
            twin = copy.copy(file)
            twin.pages = {page: copy.copy(row) for page, row in file.pages.items()}
            other.files[path] = twin
        other.limits = {whose: list(row) for whose, row in self.limits.items()}
        other.pledges = dict(self.pledges)
        other.base = {name: (many, list(sheets)) for name, (many, sheets) in self.base.items()}
        other.base_blocks = set(self.base_blocks)
        other.numbers = dict(self.numbers)
        return other

    def do(self, deed, *things, **named):
        """Does a deed; a refused one changes nothing."""
        trial = self.clone()
        told = getattr(trial, deed)(*things, **named)
        self.__dict__ = trial.__dict__
        return told

    # Counts.

    def wanting(self):
        return [(path, page) for path in sorted(self.files) for page in sorted(self.files[path].pages)
                if self.files[path].pages[page].wants()]

    def left(self):
        now = {file.name: len(file.pages) for file in self.files.values()}
        told = self.size - len(self.base_blocks) - len(self.wanting()) - sum(self.pledges.values())
        for name in set(now) | set(self.base):
            told -= max(worst(now.get(name, 0)), worst(self.base.get(name, (0, []))[0]))
        return told

    def behind(self):
        blocks = set()
        for file in self.files.values():
            for row in file.settled().values():
                if not row.written or row.late is None:
                    blocks.add(row.block)
        told = self.size - len(blocks) - len(self.wanting()) - sum(self.pledges.values())
        return told - sum(worst(len(file.pages)) for file in self.files.values())

    def free(self):
        free = set(range(self.size)) - self.base_blocks
        for many, sheets in self.base.values():
            free -= set(sheets)
        return free

    def charge_of(self, whose):
        self.need_whose(whose)
        return self.charge(whose)

    def charge(self, whose):
        told = 0
        for path, file in self.files.items():
            if file.owner == whose or whose in chain(path):
                told += len(file.pages) + worst(len(file.pages))
        return told

    # Refusals.

    def need_path(self, path, root=True):
        if not is_path(path) or (path == "/" and not root):
            raise Refused("BadPath", path)

    def need_file(self, path):
        self.need_path(path)
        if path not in self.files:
            raise Refused("NoFile", path)
        return self.files[path]

    def need_new(self, path):
        self.need_path(path, root=False)
        if folder_of(path) != "/" and folder_of(path) not in self.folders:
            raise Refused("NoFolder", folder_of(path))
        if path in self.files or path in self.folders:
            raise Refused("Taken", path)

    def need_owner(self, owner):
        if owner not in range(10):
            raise Refused("BadOwner", owner)

    def need_whose(self, whose):
        if isinstance(whose, int):
            self.need_owner(whose)
        else:
            self.need_path(whose)
            if whose != "/" and whose not in self.folders:
                raise Refused("NoFolder", whose)

    def need_pages(self, page, many):
        if many < 0:
            raise Refused("BadMany", many)
        if page < 0 or page + many > 60:
            raise Refused("BadPage", page)

    def need_pledge(self, by):
        if by is not None and by not in self.pledges:
            raise Refused("NoPledge", by)

    def need_limits(self, before, all_whose):
        for whose in all_whose:
            was, will = before.charge(whose), self.charge(whose)
            soft, hard, began = self.limits.get(whose, (None, None, None))
            if will > was and hard is not None and will > hard:
                raise Refused("OverLimit", whose, will, hard)
            if will > was and soft is not None and will > soft and was > soft and self.time - began >= self.grace:
                raise Refused("GraceOver", whose, began)

    def need_room(self, before, by, again):
        asked = before.left() - self.left()
        if by is not None:
            if self.pledges[by] < asked:
                raise Refused("Dry", by, asked, self.pledges[by])
            self.pledges[by] -= asked
        elif asked > before.left():
            raise Refused("NoRoom", asked, before.left(), self.asks_for_help and before.helps(again))

    def helps(self, again):
        later = self.clone()
        later.asks_for_help = False
        later.settle()
        try:
            again(later)
        except Refused:
            return False
        return True

    def note(self):
        for whose, row in self.limits.items():
            if row[0] is None or self.charge(whose) <= row[0]:
                row[2] = None
            elif row[2] is None:
                row[2] = self.time

    # Deeds.

    def new_file(self, path, owner):
        self.names += 1
        self.files[path] = PlainFile(self.names, owner)
        return self.files[path]

    def make(self, path, owner=0):
        self.need_new(path)
        self.need_owner(owner)
        if len(self.files) >= 24:
            raise Refused("Crowded", 24)
        self.new_file(path, owner)

    def fold(self, path):
        self.need_new(path)
        if len(self.folders) >= 12:
            raise Refused("Crowded", 12)
        self.folders.add(path)

    def drop(self, path):
        self.need_path(path, root=False)
        if path not in self.files and path not in self.folders:
            raise Refused("NoFile", path)
        if [other for other in [*self.files, *self.folders] if folder_of(other) == path]:
            raise Refused("NotEmpty", path)
        self.files.pop(path, None)
        self.folders.discard(path)
        self.limits.pop(path, None)
        self.note()

    def write(self, path, page, values, by=None):
        file = self.need_file(path)
        self.need_pages(page, len(values))
        self.need_pledge(by)
        before = self.clone()
        for at, value in enumerate(values):
            row = file.pages.setdefault(page + at, Page())
            row.late, row.due = value, False
        self.need_limits(before, [file.owner] + chain(path))
        self.need_room(before, by, lambda later: later.write(path, page, values))
        self.note()

    def reserve(self, path, page, many, by=None):
        file = self.need_file(path)
        self.need_pages(page, many)
        self.need_pledge(by)
        before = self.clone()
        for one in range(page, page + many):
            if one not in file.pages:
                file.pages[one] = Page()
                file.pages[one].due = True
        self.need_limits(before, [file.owner] + chain(path))
        self.need_room(before, by, lambda later: later.reserve(path, page, many))
        self.note()

    def hole(self, path, page, many):
        file = self.need_file(path)
        self.need_pages(page, many)
        for one in range(page, page + many):
            file.pages.pop(one, None)
        self.note()

    def shorten(self, path, pages):
        file = self.need_file(path)
        self.need_pages(pages, 0)
        for one in range(pages, 60):
            file.pages.pop(one, None)
        self.note()

    def twin(self, path, to, owner=None, by=None):
        file = self.need_file(path)
        self.need_new(to)
        whose = file.owner if owner is None else owner
        self.need_owner(whose)
        if [row for row in file.pages.values() if row.late is not None or row.due]:
            raise Refused("Unsettled", path)
        if len(self.files) >= 24:
            raise Refused("Crowded", 24)
        self.need_pledge(by)
        before = self.clone()
        other = self.new_file(to, whose)
        other.pages = {page: copy.copy(row) for page, row in file.pages.items() if row.written}
        self.need_limits(before, [whose] + chain(to))
        self.need_room(before, by, lambda later: later.twin(path, to, owner))
        self.note()

    def move(self, path, to):
        self.need_file(path)
        self.need_new(to)
        before = self.clone()
        self.files[to] = self.files.pop(path)
        self.need_limits(before, chain(to))
        self.note()

    def give(self, path, owner):
        file = self.need_file(path)
        self.need_owner(owner)
        before = self.clone()
        file.owner = owner
        self.need_limits(before, [owner])
        self.note()

    def limit(self, whose, soft=None, hard=None):
        self.need_whose(whose)
        for bound in (soft, hard):
            if bound is not None and bound < 0:
                raise Refused("BadMany", bound)
        began = self.limits.pop(whose, [None, None, None])[2]
        if soft is not None or hard is not None:
            self.limits[whose] = [soft, hard, began]
        self.note()

    def tick(self, many=1):
        if many < 0:
            raise Refused("BadMany", many)
        self.time += many

    def new_pledge(self, many):
        self.last_pledge += 1
        self.pledges[self.last_pledge] = many
        return self.last_pledge

    def pledge(self, many):
        if many < 1:
            raise Refused("BadMany", many)
        if many > self.left():
            raise Refused("NoRoom", many, self.left(), many <= self.behind())
        return self.new_pledge(many)

    def part(self, ticket, many):
        self.need_pledge(ticket)
        if many < 1:
            raise Refused("BadMany", many)
        if many > self.pledges[ticket]:
            raise Refused("Dry", ticket, many, self.pledges[ticket])
        self.pledges[ticket] -= many
        return self.new_pledge(many)

    def release(self, ticket):
        self.need_pledge(ticket)
        return self.pledges.pop(ticket)

    # Settling and coming up.

    def place(self, paths, free):
        told = []
        for path in sorted(paths):
            wanting = [page for page, row in self.files[path].pages.items() if row.wants()]
            for run in in_runs(wanting):
                told.extend((path, page, block) for page, block in zip(run, take(free, len(run))))
        return told

    def settle(self, path=None):
        if path is not None:
            self.need_file(path)
        paths = [path] if path is not None else list(self.files)
        free = self.free()
        for one, page, block in self.place(paths, free):
            row = self.files[one].pages[page]
            row.block, row.written = block, False
        for one in paths:
            for row in self.files[one].pages.values():
                if row.late is not None:
                    self.numbers[row.block] = row.late
                    row.written = True
                row.late, row.due = None, False
        base = {}
        for one in sorted(self.files):
            file = self.files[one]
            needed = worst(len(file.rows()))
            sheets = self.base.get(file.name, (0, []))[1][:needed]
            while len(sheets) < needed:
                sheets.append(min(free))
                free.discard(min(free))
            base[file.name] = (len(file.settled()), sheets)
        self.base = base
        self.base_blocks = {row.block for file in self.files.values() for row in file.settled().values()}
        self.kept = None
        self.kept = self.clone()

    def come_up(self):
        """The store that a keeper has over this one's disk."""
        if self.kept is None:
            return Plain(self.size, self.grace)
        up = self.kept.clone()
        up.kept = self.kept
        up.pledges, up.last_pledge = {}, 0
        for file in up.files.values():
            file.pages = file.settled()
            for row in file.pages.values():
                row.late = None
        up.note()
        return up

    # Questions.

    def read(self, path, page, many=1):
        file = self.need_file(path)
        self.need_pages(page, many)
        told = []
        for one in range(page, page + many):
            row = file.pages.get(one, Page())
            if row.late is not None:
                told.append(row.late)
            else:
                told.append(self.numbers[row.block] if row.written else 0)
        return told

    def shown(self):
        owners = sorted(whose for whose in self.limits if isinstance(whose, int))
        folders = sorted(whose for whose in self.limits if isinstance(whose, str))
        return [(whose, *self.limits[whose]) for whose in owners + folders]

    def put_by(self):
        here = {file.name for file in self.files.values()}
        gone = sum(worst(many) - len(sheets) for name, (many, sheets) in self.base.items() if name not in here)
        rows = [("", 0, gone)]
        for path in sorted(self.files):
            file = self.files[path]
            many, sheets = self.base.get(file.name, (0, []))
            pages = len([row for row in file.pages.values() if row.wants()])
            rows.append((path, pages, max(worst(len(file.pages)), worst(many)) - len(sheets)))
        return [row for row in rows if row[1] or row[2]]

    def held(self):
        told = []
        free = self.free()
        for block in range(self.size):
            holders = []
            for path, file in self.files.items():
                holders += [(path, page) for page, row in file.pages.items() if row.block == block]
                holders += [(path, -1) for sheet in self.base.get(file.name, (0, []))[1] if sheet == block]
            if not holders and block not in free:
                holders = [("", -1)]
            told.append(tuple(sorted(holders)))
        return told

    def plan(self):
        free = self.free()
        told = self.place(list(self.files), free)
        for path, pages, sheets in self.put_by():
            told += [(path, -1, None)] * sheets
        for ticket in sorted(self.pledges):
            told += [("", ticket, None)] * self.pledges[ticket]
        blocks = sorted(free)
        return [row if row[2] is not None else (row[0], row[1], blocks.pop(0)) for row in told]

    def state(self):
        """All that a keeper can be asked."""
        told = {
            "files": sorted(self.files), "folders": sorted(self.folders | {"/"}), "left": self.left(),
            "behind": self.behind(), "free": sorted(self.free()), "pledges": sorted(self.pledges.items()),
            "limits": self.shown(), "now": self.time, "held": self.held(), "put_by": self.put_by(),
            "plan": self.plan(), "charges": {},
        }
        for whose in [*range(10), *told["folders"]]:
            told["charges"][whose] = self.charge(whose)
        for path, file in self.files.items():
            told[path] = {
                "owner": file.owner, "pages": [(page, file.pages[page].word()) for page in sorted(file.pages)],
                "runs": file.rows(), "sheets": self.base.get(file.name, (0, []))[1], "read": self.read(path, 0, 60),
            }
        return told

    def counts(self):
        """The rows of charges and holders that stand behind the last settling."""
        kept = self.kept
        told = {("charge", folder): 0 for folder in kept.folders | {"/"}}
        for path, file in kept.files.items():
            many, sheets = kept.base[file.name]
            for whose in [file.owner, *chain(path)]:
                told[("charge", whose)] = told.get(("charge", whose), 0) + many + worst(many)
            for block in [*[row.block for row in file.settled().values()], *sheets]:
                told[("holders", block)] = told.get(("holders", block), 0) + 1
        return {address: (many,) for address, many in told.items()}

    def blocks(self):
        """The rows of blocks that stand behind the last settling: of written pages and of sheets."""
        kept = self.kept
        told = {}
        for file in kept.files.values():
            for row in file.settled().values():
                if row.written:
                    told[row.block] = kept.numbers[row.block]
            rows = file.rows()[3:]
            for at, block in enumerate(kept.base[file.name][1]):
                told[block] = tuple(rows[at * 6:at * 6 + 6])
        return told

    def aside(self):
        return {row.block for file in self.kept.files.values() for row in file.settled().values() if not row.written}


def state_of(keeper):
    """All that the keeper tells, in the form of Plain.state."""
    census = keeper.census()
    told = {
        "files": keeper.files(), "folders": keeper.folders(), "left": keeper.left(), "behind": keeper.behind(),
        "free": keeper.free().blocks(), "pledges": keeper.pledges(), "limits": keeper.limits(), "now": keeper.now(),
        "held": census.held, "put_by": census.put_by, "plan": keeper.plan(), "charges": {},
    }
    for whose in [*range(10), *told["folders"]]:
        told["charges"][whose] = keeper.charge_of(whose)
    for path in told["files"]:
        told[path] = {
            "owner": keeper.owner_of(path), "pages": keeper.pages_of(path), "runs": keeper.runs_of(path),
            "sheets": keeper.sheets_of(path), "read": keeper.read(path, 0, 60),
        }
    return told
