"""Limits of owners and folders, and the time by which a grace is counted."""

from latestow.errors import BadMany, GraceOver, OverLimit

GRACE = 5


class Limits:
    """Soft and hard limits by whose they are: an owner's number or a folder's path."""

    def __init__(self, *, grace=GRACE):
        self.grace = grace
        self.time = 0
        self.bars = {}
        # Since when a charge is above its soft limit; whose charge is not above has no entry.
        self.begins = {}

    def copied(self):
        other = Limits(grace=self.grace)
        other.time = self.time
        other.bars = dict(self.bars)
        other.begins = dict(self.begins)
        return other

    def bring_up(self, time, rows):
        """Sets the time and all limits as they were shown; whether they are above is still to be noted."""
        self.time = time
        for whose, soft, hard, began in rows:
            self.bars[whose] = (soft, hard)
            if began is not None:
                self.begins[whose] = began

    def rule(self, whose, charge, *, soft=None, hard=None):
        """Sets both limits anew; without any the limit is taken away."""
        if soft is None and hard is None:
            self.bars.pop(whose, None)
        else:
            self.bars[whose] = (soft, hard)
        self.note(whose, charge)

    def bar_of(self, whose):
        return self.bars.get(whose, (None, None))

    def has_bar(self, whose):
        return whose in self.bars

    def note(self, whose, charge):
        """The charge is now as told: a beginning is set where there is none, or ends."""
        soft, hard = self.bar_of(whose)
        if soft is None or charge <= soft:
            self.begins.pop(whose, None)
        elif whose not in self.begins:
            self.begins[whose] = self.time

    def asks(self, whose, was, will):
        """Refuses a charge that would grow beyond what is let."""
        if will <= was:
            return
        soft, hard = self.bar_of(whose)
        if hard is not None and will > hard:
            raise OverLimit(whose, will, hard)
        if soft is not None and will > soft and self.grace_is_over(whose):
            raise GraceOver(whose, self.begins[whose])

    def grace_is_over(self, whose):
        began = self.since(whose)
        return began is not None and self.time - began >= self.grace

    def tick(self, many=1):
        if many < 0:
            raise BadMany(many)
        self.time += many

    def since(self, whose):
        return self.begins.get(whose)

    def now(self):
        return self.time

    def shown(self):
        """All limits: those of owners by number, then those of folders by path."""
        owners = sorted([whose for whose in self.bars if isinstance(whose, int)])
        folders = sorted([whose for whose in self.bars if isinstance(whose, str)])
        told = []
        for whose in owners + folders:
            soft, hard = self.bars[whose]
            told.append((whose, soft, hard, self.since(whose)))
        return told
