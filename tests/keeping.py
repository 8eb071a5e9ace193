"""What the tests of the keeper share."""

import unittest

from drawn import FAILURES
from latestow.disk import Disk
from latestow.keeper import Keeper
from plain import state_of


class KeeperCase(unittest.TestCase):
    def store(self, size=60, *, grace=5):
        self.disk = Disk(size)
        self.keeper = Keeper(self.disk, grace=grace)
        return self.keeper

    def refused(self, text, deed, *things, **named):
        """The deed is refused with just this text, and nothing at all is changed."""
        before, writes = state_of(self.keeper), self.disk.writes
        with self.assertRaises(FAILURES) as caught:
            getattr(self.keeper, deed)(*things, **named)
        self.assertEqual(str(caught.exception), text)
        self.assertEqual(caught.exception.__class__.__name__, text.split(" ")[0])
        self.assertEqual(state_of(self.keeper), before)
        self.assertEqual(self.disk.writes, writes)
        return caught.exception

    def let(self, deed, *things, **named):
        """The deed is let and tells nothing."""
        self.assertIsNone(getattr(self.keeper, deed)(*things, **named))

    def scattered(self, path, many, first=0):
        """Writes every second page, so that each needs a row of its own, and settles."""
        for at in range(many):
            self.keeper.write(path, first + 2 * at, [100 + at])
        self.keeper.settle(path)
