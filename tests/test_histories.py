"""Drawn histories: the keeper against the plain store, which knows nothing but the document's words.

Promises 8 to 20, 25 and 26; 21 where no settling is cut.
"""

import random
import unittest

from drawn import begin, do_both, draw_deed
from latestow.disk import Disk
from latestow.keeper import Keeper
from latestow.looker import look
from latestow.papers import Census, adds_up, bears
from plain import Plain, state_of

HISTORIES = 90
STEPS = 60


class HistoryTest(unittest.TestCase):
    def check(self, disk, keeper, plain):
        told = state_of(keeper)
        self.assertEqual(told, plain.state())
        census = keeper.census()
        self.assertIs(adds_up(census), True)
        self.assertIs(bears(census, keeper.plan()), True)
        self.assertEqual(census, Census(plain.size, plain.held(), plain.put_by(), sorted(plain.pledges.items()),
                                        plain.left()))
        self.assertGreaterEqual(keeper.left(), 0)

    def check_rows(self, disk, plain):
        """The rows of charges, holders and blocks, and no others of charges and holders."""
        counts = {address: disk.read(address) for address in disk.addresses() if address[0] in ("charge", "holders")}
        self.assertEqual(counts, plain.counts())
        for block, row in plain.blocks().items():
            self.assertEqual(disk.read(("block", block)), row)
        for block in plain.aside():
            self.assertIsNone(disk.read(("block", block)))
        self.assertEqual(look(disk), [])

    def settled_as_planned(self, keeper, plan):
        places = {}
        for path in keeper.files():
            for page, block, many, kind in keeper.runs_of(path):
                for step in range(many):
                    places[path, page + step] = block + step
        for path, page, block in plan:
            if path != "" and page >= 0:
                self.assertEqual(places[path, page], block)

    def step(self, chance, disk, keeper, plain):
        deed, things, named = draw_deed(chance, plain)
        before, writes, plan = state_of(keeper), disk.writes, keeper.plan()
        refusal = do_both(self, keeper, plain, deed, things, named)
        self.check(disk, keeper, plain)
        if refusal is not None:
            self.assertEqual(state_of(keeper), before)
        if deed != "settle" or refusal is not None:
            self.assertEqual(disk.writes, writes)
        else:
            self.check_rows(disk, plain)
            if not things:
                self.settled_as_planned(keeper, plan)
        return refusal.split()[0] if refusal else deed

    def test_histories(self):
        seen = set()
        for seed in range(HISTORIES):
            chance = random.Random(seed)
            size = chance.choice((4, 7, 12, 20, 30, 45, 60, 90, 200))
            grace = chance.choice((0, 2, 5))
            disk, plain = Disk(size), Plain(size, grace)
            keeper = Keeper(disk, grace=grace)
            with self.subTest(seed=seed, size=size):
                begin(self, chance, keeper, plain)
                for at in range(STEPS):
                    if chance.random() < 0.04:
                        # A new keeper comes up, behind a cut or over the disk as it is.
                        if chance.random() < 0.5:
                            disk.cut(through=chance.randrange(4))
                        keeper, plain = Keeper(disk, grace=grace), plain.come_up()
                        self.check(disk, keeper, plain)
                    seen.add(self.step(chance, disk, keeper, plain))
        # The draws reach each deed and each refusal.
        self.assertLessEqual(set(
            "make fold drop write reserve hole shorten twin move give limit tick pledge part release settle BadPath"
            " BadPage BadMany BadOwner Taken NotEmpty Unsettled NoRoom OverLimit GraceOver Dry NoFile NoFolder"
            " NoPledge".split()
        ), seen)


if __name__ == "__main__":
    unittest.main()
