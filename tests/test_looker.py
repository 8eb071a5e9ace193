"""Promises 23 and 24, with the interface's section latestow/looker.py."""

import copy
import random
import unittest

from drawn import begin, do_both, draw_deed
from latestow.disk import Disk
from latestow.errors import Cut, StowError, Unplayed
from latestow.keeper import Keeper
from latestow.looker import look, mend
from plain import Plain, state_of


def rows(disk):
    return {address: disk.read(address) for address in disk.addresses()}


def some_store():
    """/a with sheets and its twin /d/t, owners 1 and 3, an empty folder /e, an empty file of owner 5."""
    disk = Disk(60)
    keeper = Keeper(disk)
    for path in ("/d", "/e"):
        keeper.fold(path)
    keeper.make("/a", owner=1)
    for page in range(0, 20, 2):
        keeper.write("/a", page, [page])
    keeper.reserve("/a", 21, 1)
    keeper.settle()
    keeper.twin("/a", "/d/t", owner=3)
    keeper.make("/b", owner=5)
    keeper.settle()
    return disk, keeper


class LookTest(unittest.TestCase):
    def setUp(self):
        self.disk, self.keeper = some_store()
        self.good = rows(self.disk)

    def faults(self, should):
        """look tells these, and writes nothing; mend tells them too and puts just them right."""
        before, writes = rows(self.disk), self.disk.writes
        told = look(self.disk)
        self.assertEqual(told, should)
        self.assertTrue(all(isinstance(row, tuple) and len(row) == 4 for row in told))
        told.append("changed")
        self.assertEqual(look(self.disk), should)
        self.assertEqual((rows(self.disk), self.disk.writes), (before, writes))
        self.assertEqual(mend(self.disk), should)
        self.assertEqual(rows(self.disk), self.good)
        self.assertEqual(self.disk.writes, writes + len(should))
        self.disk.cut()
        self.assertEqual(rows(self.disk), self.good)
        self.assertEqual((look(self.disk), mend(self.disk)), ([], []))

    def bend(self, *pairs):
        for address, row in pairs:
            self.disk.put(address, row)
        self.disk.barrier()

    def test_no_fault(self):
        self.assertEqual(self.good[("charge", 1)], (11 + 2,))
        self.assertEqual(self.good[("charge", 5)], (0,))
        self.assertEqual(self.good[("holders", 0)], (2,))
        self.faults([])

    def test_a_bent_row_of_holders(self):
        for many in (0, 1, 3, -1, 10 ** 20):
            self.bend((("holders", 0), (many,)))
            self.faults([("holders", 0, many, 2)])

    def test_a_bent_row_of_a_sheet(self):
        block = self.keeper.sheets_of("/a")[0]
        self.bend((("holders", block), (2,)))
        self.faults([("holders", block, 2, 1)])

    def test_a_missing_row(self):
        self.bend((("holders", 3), None))
        self.faults([("holders", 3, None, 2)])
        self.bend((("charge", 1), None))
        self.faults([("charge", 1, None, 13)])
        self.bend((("charge", 5), None))
        self.faults([("charge", 5, None, 0)])
        self.bend((("charge", "/e"), None))
        self.faults([("charge", "/e", None, 0)])

    def test_a_needless_row(self):
        self.bend((("holders", 59), (1,)))
        self.faults([("holders", 59, 1, None)])
        self.bend((("holders", 59), (0,)))
        self.faults([("holders", 59, 0, None)])
        self.bend((("charge", 7), (0,)))
        self.faults([("charge", 7, 0, None)])
        self.bend((("charge", "/no"), (4,)))
        self.faults([("charge", "/no", 4, None)])
        self.bend((("charge", "/a"), (13,)))
        self.faults([("charge", "/a", 13, None)])

    def test_bent_charges(self):
        self.bend((("charge", 3), (1,)))
        self.faults([("charge", 3, 1, 12)])
        self.bend((("charge", "/"), (1,)))
        self.faults([("charge", "/", 1, 25)])
        self.bend((("charge", "/d"), (0,)))
        self.faults([("charge", "/d", 0, 12)])

    def test_the_told_order(self):
        self.bend(
            (("charge", "/e"), (1,)), (("charge", "/"), (0,)), (("charge", 5), (6,)), (("charge", "/d"), None),
            (("charge", 9), (6,)), (("charge", 1), (6,)), (("holders", 40), (9,)), (("holders", 2), None),
            (("holders", 10), (7,)), (("charge", "/a"), (1,)), (("charge", 0), (0,)),
        )
        self.faults([
            ("holders", 2, None, 2), ("holders", 10, 7, 1), ("holders", 40, 9, None), ("charge", 0, 0, None),
            ("charge", 1, 6, 13), ("charge", 5, 6, 0), ("charge", 9, 6, None), ("charge", "/", 0, 25),
            ("charge", "/a", 1, None), ("charge", "/d", None, 12), ("charge", "/e", 1, 0),
        ])

    def test_all_rows_away(self):
        gone = [address for address in self.good if address[0] in ("charge", "holders")]
        self.bend(*[(address, None) for address in gone])
        self.assertEqual(len(look(self.disk)), len(gone))
        mend(self.disk)
        self.assertEqual(rows(self.disk), self.good)

    def test_a_row_that_is_no_tuple(self):
        self.bend((("holders", 0), 2))
        self.faults([("holders", 0, 2, 2)])

    def test_a_keeper_goes_on_behind_a_mending(self):
        before = state_of(self.keeper)
        self.bend((("charge", 1), (0,)), (("holders", 0), None))
        mend(self.disk)
        self.assertEqual(state_of(self.keeper), before)
        self.keeper.write("/a", 0, [5])
        self.keeper.settle()
        self.assertEqual((look(self.disk), self.keeper.read("/a", 0)), ([], [5]))

    def test_other_rows_stay(self):
        self.bend((("note", 1), (2, 3)), (("holders",), (4,)), (("charge", 1, 2), (5,)), (("charge", 1), (0,)))
        self.good.update({("note", 1): (2, 3), ("holders",): (4,), ("charge", 1, 2): (5,)})
        self.faults([("charge", 1, 0, 13)])
        Keeper(self.disk).settle()
        self.assertEqual(rows(self.disk), self.good)


class CutMendingTest(unittest.TestCase):
    def test_a_mending_cut(self):
        good = rows(some_store()[0])
        for many in range(4):
            for through in (0, 1, 2, 5, 7):
                disk, keeper = some_store()
                disk.put(("charge", 1), (0,))
                disk.put(("holders", 50), (3,))
                disk.put(("holders", 0), None)
                disk.barrier()
                before = state_of(Keeper(disk))
                disk.fuse(many, through=through)
                with self.assertRaises(Cut):
                    mend(disk)
                self.assertEqual(state_of(Keeper(disk)), before)
                mend(disk)
                self.assertEqual((rows(disk), look(disk)), (good, []))


class UnplayedTest(unittest.TestCase):
    def cut(self, many, through):
        disk, keeper = some_store()
        keeper.write("/a", 0, [99, 98])
        keeper.drop("/d/t")
        keeper.fold("/g")
        disk.fuse(many, through=through)
        try:
            keeper.settle()
        except Cut:
            return disk
        return None

    def test_cut_at_each_writing(self):
        told = []
        many = 0
        while True:
            disk = self.cut(many, 0)
            if disk is None:
                break
            told.append(self.look_and_come_up(disk))
            for through in (1, 2, 3, 6, (1 << 50) - 1):
                self.look_and_come_up(self.cut(many, through))
            many += 1
        self.assertEqual((told[0], "unplayed" in told), ("ahead", True))
        self.assertEqual(told, sorted(told, key=("ahead", "unplayed", "done").index))

    def look_and_come_up(self, disk):
        before, writes = rows(disk), disk.writes
        try:
            self.assertEqual((look(disk), mend(disk)), ([], []))
            unplayed = False
        except Unplayed as e:
            self.assertIsInstance(e, StowError)
            with self.assertRaises(Unplayed):
                look(disk)
            with self.assertRaises(Unplayed):
                mend(disk)
            unplayed = True
        self.assertEqual((rows(disk), disk.writes), (before, writes))
        keeper = Keeper(disk)
        new = keeper.folders() == ["/", "/d", "/e", "/g"]
        self.assertEqual(keeper.read("/a", 0, 2), [99, 98] if new else [0, 0])
        self.assertEqual((look(disk), mend(disk)), ([], []))
        if unplayed:
            self.assertTrue(new)
            return "unplayed"
        return "done" if new else "ahead"

    def test_bent_rows_while_the_one_ahead_counts(self):
        disk = self.cut(1, 0)
        disk.put(("charge", 1), (1,))
        self.assertEqual(look(disk), [("charge", 1, 1, 13)])
        self.assertEqual(mend(disk), [("charge", 1, 1, 13)])
        self.assertEqual(look(disk), [])


class DrawnLookTest(unittest.TestCase):
    def test_drawn(self):
        for seed in range(25):
            chance = random.Random(seed)
            disk, plain = Disk(50), Plain(50)
            keeper = Keeper(disk)
            begin(self, chance, keeper, plain)
            for at in range(40):
                do_both(self, keeper, plain, *draw_deed(chance, plain))
                self.assertEqual(look(disk), [])
            self.bend_and_mend(chance, disk, plain)

    def bend_and_mend(self, chance, disk, plain):
        good, should = rows(disk), {}
        counts = plain.counts()
        addresses = [*counts, *[("holders", block) for block in range(50)], *[("charge", owner) for owner in range(10)]]
        for address in chance.sample(addresses, 8):
            row = chance.choice((None, (chance.randrange(5),), (chance.randrange(60),)))
            disk.put(address, row)
            if row != counts.get(address):
                should[address] = (row and row[0], counts.get(address) and counts[address][0])
        order = sorted(should, key=lambda address: (
            address[0] != "holders", isinstance(address[1], str), address[1] if isinstance(address[1], int) else 0,
            str(address[1]),
        ))
        told = [(*address, *should[address]) for address in order]
        self.assertEqual(look(disk), told)
        self.assertEqual(mend(copy.copy(disk)), told)
        self.assertEqual((look(disk), rows(disk)), ([], good))


if __name__ == "__main__":
    unittest.main()
