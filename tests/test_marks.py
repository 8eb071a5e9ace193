"""Marks: all in hand stands as it did, again and again; Stale behind a settling."""

import random
import unittest

from drawn import begin, do_both, draw_deed
from keeping import KeeperCase
from latestow.disk import Disk
from latestow.errors import Stale, StowError
from latestow.keeper import Keeper
from plain import Plain, state_of


class MarkTest(KeeperCase):
    def setUp(self):
        keeper = self.store(40, grace=50)
        keeper.fold("/d")
        keeper.make("/a", owner=1)
        keeper.write("/a", 0, [1, 2, 3, 4])
        keeper.settle()
        keeper.write("/a", 1, [5])
        keeper.reserve("/a", 9, 1)
        keeper.limit(1, soft=2, hard=30)
        keeper.pledge(3)
        keeper.tick(2)

    def change_all(self):
        keeper = self.keeper
        keeper.write("/a", 0, [9, 9, 9])
        keeper.hole("/a", 3, 7)
        keeper.give("/a", 2)
        keeper.limit(1)
        keeper.limit("/", soft=0)
        keeper.tick(5)
        keeper.part(1, 1)
        keeper.release(1)
        keeper.fold("/e")
        keeper.move("/a", "/d/a")
        keeper.make("/a")
        keeper.write("/a", 0, [7])
        keeper.drop("/d/a")
        keeper.drop("/d")

    def test_back_again_and_again(self):
        before = state_of(self.keeper)
        mark = self.keeper.mark()
        for at in range(3):
            self.change_all()
            self.assertNotEqual(state_of(self.keeper), before)
            self.let("back", mark)
            self.assertEqual(state_of(self.keeper), before)
        self.assertEqual(self.keeper.pledge(1), 2)

    def test_numbers_of_pledges_come_again(self):
        mark = self.keeper.mark()
        self.assertEqual(self.keeper.pledge(1), 2)
        self.assertEqual(self.keeper.pledge(1), 3)
        self.keeper.back(mark)
        self.assertEqual((self.keeper.pledge(4), self.keeper.pledges()), (2, [(1, 3), (2, 4)]))

    def test_several_marks_to_and_fro(self):
        marks, states = [], []
        for at in range(4):
            marks.append(self.keeper.mark())
            states.append(state_of(self.keeper))
            self.keeper.write("/a", 20 + at, [at])
            self.keeper.tick()
        for at in (0, 3, 1, 2, 0, 3):
            self.keeper.back(marks[at])
            self.assertEqual(state_of(self.keeper), states[at])

    def test_going_back_writes_nothing(self):
        writes = self.disk.writes
        mark = self.keeper.mark()
        self.change_all()
        self.keeper.back(mark)
        self.assertEqual(self.disk.writes, writes)

    def test_stale_behind_a_settling(self):
        mark = self.keeper.mark()
        self.keeper.settle("/a")
        error = self.refused("Stale", "back", mark)
        self.assertIsInstance(error, StowError)
        mark = self.keeper.mark()
        self.let("back", mark)
        self.keeper.settle()
        # Nothing was changed, but it was a settling.
        self.refused("Stale", "back", mark)

    def test_a_refused_settling_makes_nothing_stale(self):
        mark = self.keeper.mark()
        self.refused("NoFile /no", "settle", "/no")
        self.refused("BadPath ", "settle", "")
        self.let("back", mark)

    def test_a_settling_of_what_was_gone_back_to(self):
        mark = self.keeper.mark()
        self.change_all()
        self.keeper.back(mark)
        self.keeper.settle()
        self.assertEqual(self.keeper.read("/a", 0, 4), [1, 5, 3, 4])
        self.assertEqual(Keeper(self.disk).files(), ["/a"])


class DrawnMarkTest(unittest.TestCase):
    def test_drawn(self):
        for seed in range(25):
            chance = random.Random(seed)
            plain, keeper = Plain(40), Keeper(Disk(40))
            begin(self, chance, keeper, plain)
            marks = []
            for at in range(60):
                deed, things, named = draw_deed(chance, plain)
                refusal = do_both(self, keeper, plain, deed, things, named)
                if deed == "settle" and not refusal:
                    for mark, elder in marks:
                        with self.assertRaises(Stale):
                            keeper.back(mark)
                    marks = []
                if chance.random() < 0.2:
                    marks.append((keeper.mark(), plain.clone()))
                if marks and chance.random() < 0.2:
                    mark, elder = chance.choice(marks)
                    keeper.back(mark)
                    plain = elder.clone()
                self.assertEqual(state_of(keeper), plain.state())


if __name__ == "__main__":
    unittest.main()
