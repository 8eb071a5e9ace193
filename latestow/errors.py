"""The errors of the store.

Each class writes its own text, so that it reads the same whatever Python's base class would make of it.
"""


class StowError(ValueError):
    """A deed is refused."""

    def __str__(self):
        return "StowError"


class Missing(LookupError):
    """A file or a folder is not there."""

    def __str__(self):
        return "Missing"


class Short(StowError):
    """More blocks are asked for than there are."""

    def __init__(self, asked, there):
        self.asked = asked
        self.there = there

    def __str__(self):
        return f"Short {self.asked} {self.there}"


class BadSize(StowError):
    """A disk cannot have so many blocks."""

    def __init__(self, size):
        self.size = size

    def __str__(self):
        return f"BadSize {self.size}"


class BadPath(StowError):
    """A text is no path, or no path for this deed."""

    def __init__(self, path):
        self.path = path

    def __str__(self):
        return f"BadPath {self.path}"


class BadPage(StowError):
    """A page is beyond those that a file can have."""

    def __init__(self, page):
        self.page = page

    def __str__(self):
        return f"BadPage {self.page}"


class BadMany(StowError):
    """A number is too small for this deed."""

    def __init__(self, many):
        self.many = many

    def __str__(self):
        return f"BadMany {self.many}"


class BadOwner(StowError):
    """A number is no owner."""

    def __init__(self, whose):
        self.whose = whose

    def __str__(self):
        return f"BadOwner {self.whose}"


class Taken(StowError):
    """Something stands at this path already."""

    def __init__(self, path):
        self.path = path

    def __str__(self):
        return f"Taken {self.path}"


class Crowded(StowError):
    """There are as many as there may be."""

    def __init__(self, most):
        self.most = most

    def __str__(self):
        return f"Crowded {self.most}"


class NotEmpty(StowError):
    """A folder still has something in it."""

    def __init__(self, path):
        self.path = path

    def __str__(self):
        return f"NotEmpty {self.path}"


class Unsettled(StowError):
    """A file still has something late or due."""

    def __init__(self, path):
        self.path = path

    def __str__(self):
        return f"Unsettled {self.path}"


class NoRoom(StowError):
    """Less is left than the deed asks; helps tells whether a settling of all files would let it."""

    def __init__(self, asked, there, helps):
        self.asked = asked
        self.there = there
        self.helps = helps

    def __str__(self):
        return f"NoRoom {self.asked} {self.there} {self.helps}"


class OverLimit(StowError):
    """A charge would be above its hard limit."""

    def __init__(self, whose, asked, most):
        self.whose = whose
        self.asked = asked
        self.most = most

    def __str__(self):
        return f"OverLimit {self.whose} {self.asked} {self.most}"


class GraceOver(StowError):
    """A charge has been above its soft limit for too long."""

    def __init__(self, whose, began):
        self.whose = whose
        self.began = began

    def __str__(self):
        return f"GraceOver {self.whose} {self.began}"


class Dry(StowError):
    """A pledge has less than the deed asks."""

    def __init__(self, ticket, asked, there):
        self.ticket = ticket
        self.asked = asked
        self.there = there

    def __str__(self):
        return f"Dry {self.ticket} {self.asked} {self.there}"


class Gone(StowError):
    """The keeper's disk was cut: the keeper is over."""

    def __str__(self):
        return "Gone"


class Stale(StowError):
    """The keeper has settled since the mark was made."""

    def __str__(self):
        return "Stale"


class Unplayed(StowError):
    """A settling that is sure is not wholly done yet."""

    def __str__(self):
        return "Unplayed"


class NotHere(StowError):
    """A settling line stands among lines together."""

    def __str__(self):
        return "NotHere"


class BadLine(StowError):
    """A line is none that the desk knows."""

    def __str__(self):
        return "BadLine"


class Undone(StowError):
    """One of the lines together was refused, so none was done."""

    def __init__(self, at, why):
        self.at = at
        self.why = why

    def __str__(self):
        return f"Undone {self.at} {self.why}"


class NoFile(Missing):
    """No file is at this path."""

    def __init__(self, path):
        self.path = path

    def __str__(self):
        return f"NoFile {self.path}"


class NoFolder(Missing):
    """No folder is at this path."""

    def __init__(self, path):
        self.path = path

    def __str__(self):
        return f"NoFolder {self.path}"


class NoPledge(KeyError):
    """No pledge has this number."""

    def __init__(self, ticket):
        self.ticket = ticket

    def __str__(self):
        return f"NoPledge {self.ticket}"


class Cut(RuntimeError):
    """The power was cut."""

    def __str__(self):
        return "Cut"
