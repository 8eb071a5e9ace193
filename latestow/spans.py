"""Sets of blocks, and the rule by which room is taken out of them."""

from latestow.errors import BadMany, Short


def stretches(blocks):
    """The fewest pairs (first, many) that hold just these blocks, from the least block on."""
    told = []
    for block in sorted(set(blocks)):
        if told and behind_run(told[-1]) == block:
            first, many = told[-1]
            told[-1] = (first, many + 1)
        else:
            told.append((block, 1))
    return told


def behind_run(run):
    first, many = run
    return first + many


def longest_first(run):
    first, many = run
    return -many, first


def shortest_first(run):
    first, many = run
    return many, first


def text_of(run):
    first, many = run
    if many == 1:
        return str(first)
    return f"{first}-{first + many - 1}"


def taken(runs, many):
    """So many blocks out of stretches that hold at least as many, in pieces."""
    waiting = sorted(runs, key=longest_first)
    told = []
    rest = many
    at = 0
    # Where the longest stretch does not hold the rest none does, so only the front of the row is looked at.
    while rest > 0 and waiting[at][1] < rest:
        told.append(waiting[at])
        rest -= waiting[at][1]
        at += 1
    if rest > 0:
        holding = [run for run in waiting[at:] if run[1] >= rest]
        best = min(holding, key=shortest_first)
        told.append((best[0], rest))
    return told


class Spans:
    """A set of blocks that never changes."""

    def __init__(self, blocks=()):
        # A dict, so that a block is found at once; its keys stand in ascending order.
        self.members = {block: True for block in sorted(set(blocks))}

    def __len__(self):
        return len(self.members)

    def __eq__(self, other):
        return isinstance(other, Spans) and self.members == other.members

    def __repr__(self):
        return f"Spans({list(self.members)})"

    def __str__(self):
        return " ".join([text_of(run) for run in stretches(list(self.members))])

    def blocks(self):
        return list(self.members)

    def runs(self):
        return stretches(list(self.members))

    def has(self, block):
        return block in self.members

    def more(self, blocks):
        return Spans(sorted(set(self.members) | set(blocks)))

    def less(self, blocks):
        return Spans(sorted(set(self.members) - set(blocks)))

    def pieces(self, many):
        """Room for so many blocks: stretches in the order in which they are taken."""
        if many < 0:
            raise BadMany(many)
        if many > len(self.members):
            raise Short(many, len(self.members))
        return taken(self.runs(), many)
