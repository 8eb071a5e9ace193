"""A disk that keeps rows by addresses, and whose power can be cut."""

from latestow.errors import BadMany, BadSize, Cut

LEAST = 4
MOST = 200


def set_row(rows, address, row):
    if row is None:
        rows.pop(address, None)
    else:
        rows[address] = row


class Disk:
    """What is written is read at once, but is sure only behind the next barrier."""

    def __init__(self, size):
        if size < LEAST or size > MOST:
            raise BadSize(size)
        self.size = size
        self.cuts = 0
        self.writes = 0
        # What is read now, what no cut takes away, and the writings that make the one out of the other.
        self.seen = {}
        self.sure = {}
        self.loose = []
        # How many writings the fuse still lets; None where there is no fuse.
        self.lets = None
        self.burns_through = 0

    def put(self, address, row):
        """Writes a row; None takes the row away."""
        self.burn_where_due()
        if self.lets is not None:
            self.lets -= 1
        set_row(self.seen, address, row)
        self.loose.append((address, row))
        self.writes += 1

    def barrier(self):
        """Makes all writings so far sure."""
        self.burn_where_due()
        for address, row in self.loose:
            set_row(self.sure, address, row)
        self.loose = []

    def burn_where_due(self):
        if self.lets == 0:
            self.cut(through=self.burns_through)
            raise Cut()

    def read(self, address):
        return self.seen.get(address)

    def addresses(self):
        return list(self.seen)

    def cut(self, *, through=0):
        """Cuts the power: of the writings that are not sure those came through whose bit stands in through."""
        for at, (address, row) in enumerate(self.loose):
            if (through >> at) & 1 == 1:
                set_row(self.sure, address, row)
        # What came through is sure from here on: a later cut does not ask about it again.
        self.loose = []
        self.seen = {address: self.sure[address] for address in self.sure}
        self.cuts += 1
        self.lets = None

    def fuse(self, many, *, through=0):
        """Cuts the power by itself behind so many writings more; None takes the fuse away."""
        if many is not None and many < 0:
            raise BadMany(many)
        self.lets = many
        self.burns_through = through
