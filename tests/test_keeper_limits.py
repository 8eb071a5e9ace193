"""Promises 19 and 20 over the keeper: charges, limits through all deeds, which limit is told first."""

import unittest

from keeping import KeeperCase


class LimitCase(KeeperCase):
    def setUp(self):
        keeper = self.store(100, grace=3)
        for path in ("/d", "/d/e", "/f"):
            keeper.fold(path)
        keeper.make("/d/e/a", owner=1)
        keeper.make("/d/b", owner=1)
        keeper.make("/c", owner=2)


class ChargeTest(LimitCase):
    def charges(self):
        return [self.keeper.charge_of(whose) for whose in (1, 2, "/", "/d", "/d/e", "/f")]

    def test_owners_and_folders(self):
        keeper = self.keeper
        self.assertEqual(self.charges(), [0, 0, 0, 0, 0, 0])
        keeper.write("/d/e/a", 0, [1] * 4)
        keeper.reserve("/d/b", 0, 2)
        keeper.write("/c", 7, [1])
        self.assertEqual(self.charges(), [7, 1, 8, 7, 5, 0])
        keeper.settle("/c")
        keeper.write("/d/e/a", 0, [2] * 4)
        self.assertEqual(self.charges(), [7, 1, 8, 7, 5, 0])
        keeper.move("/d/e/a", "/f/a")
        keeper.give("/d/b", 2)
        self.assertEqual(self.charges(), [5, 3, 8, 2, 0, 5])
        keeper.hole("/f/a", 0, 1)
        keeper.drop("/d/b")
        self.assertEqual(self.charges(), [3, 1, 4, 0, 0, 3])
        keeper.settle()
        keeper.twin("/f/a", "/d/t", owner=2)
        self.assertEqual(self.charges(), [3, 4, 7, 3, 0, 3])

    def test_a_folder_with_a_longer_name_is_another(self):
        self.keeper.fold("/d2")
        self.keeper.make("/d2/x")
        self.keeper.write("/d2/x", 0, [1])
        self.assertEqual((self.keeper.charge_of("/d"), self.keeper.charge_of("/d2")), (0, 1))

    def test_an_owner_without_files(self):
        self.assertEqual([self.keeper.charge_of(owner) for owner in (0, 9)], [0, 0])


class HardTest(LimitCase):
    def test_each_deed(self):
        keeper = self.keeper
        for whose in (1, "/", "/d", "/d/e"):
            keeper.limit(whose, hard=5)
            self.let("write", "/d/e/a", 0, [1] * 4)
            error = self.refused(f"OverLimit {whose} 6 5", "write", "/d/e/a", 4, [1])
            self.assertEqual((error.whose, error.asked, error.most), (whose, 6, 5))
            self.refused(f"OverLimit {whose} 6 5", "reserve", "/d/e/a", 4, 1)
            self.refused(f"OverLimit {whose} 7 5", "write", "/d/e/a", 3, [1, 1, 1])
            self.let("write", "/d/e/a", 0, [2] * 4)
            self.let("reserve", "/d/e/a", 0, 4)
            keeper.shorten("/d/e/a", 0)
            keeper.limit(whose)

    def test_twin(self):
        keeper = self.keeper
        keeper.write("/c", 0, [1] * 3)
        keeper.settle()
        keeper.limit(2, hard=5)
        keeper.limit("/f", hard=2)
        self.refused("OverLimit 2 6 5", "twin", "/c", "/f/t")
        self.refused("OverLimit /f 3 2", "twin", "/c", "/f/t", owner=3)
        self.let("twin", "/c", "/d/t", owner=3)

    def test_move_asks_the_folders_that_get_it_new(self):
        keeper = self.keeper
        keeper.write("/d/e/a", 0, [1] * 3)
        # All are above already, but the file makes none of these greater.
        keeper.limit("/d", hard=1)
        keeper.limit("/", hard=1)
        keeper.limit(1, hard=1)
        self.let("move", "/d/e/a", "/d/a")
        keeper.limit("/d/e", hard=2)
        self.refused("OverLimit /d/e 3 2", "move", "/d/a", "/d/e/a")
        keeper.limit("/f", hard=3)
        self.let("move", "/d/a", "/f/a")
        keeper.limit("/d", hard=2)
        self.refused("OverLimit /d/e 3 2", "move", "/f/a", "/d/e/x")
        keeper.limit("/d/e")
        self.refused("OverLimit /d 3 2", "move", "/f/a", "/d/e/x")
        self.let("move", "/c", "/d/e/x")

    def test_give(self):
        keeper = self.keeper
        keeper.write("/c", 0, [1] * 3)
        keeper.limit(1, hard=2)
        keeper.limit(2, hard=1)
        keeper.limit("/", hard=1)
        error = self.refused("OverLimit 1 3 2", "give", "/c", 1)
        self.assertEqual(error.whose, 1)
        # To whom it is: nothing is greater.
        self.let("give", "/c", 2)
        keeper.limit(1, hard=3)
        self.let("give", "/c", 1)

    def test_a_lowered_limit_takes_nothing_away(self):
        keeper = self.keeper
        keeper.write("/c", 0, [1] * 5)
        keeper.settle()
        keeper.limit(2, soft=0, hard=0)
        self.assertEqual((keeper.charge_of(2), len(keeper.pages_of("/c"))), (6, 5))
        self.let("write", "/c", 0, [2] * 5)
        self.let("settle")
        self.let("hole", "/c", 4, 1)
        self.refused("OverLimit 2 6 0", "write", "/c", 4, [1])
        self.let("move", "/c", "/f/c")
        self.let("give", "/f/c", 3)
        self.let("drop", "/f/c")

    def test_at_the_limit(self):
        self.keeper.limit(2, hard=0)
        self.refused("OverLimit 2 1 0", "write", "/c", 0, [1])
        self.let("write", "/c", 0, [])
        self.keeper.limit(2, hard=1)
        self.let("write", "/c", 0, [1])
        self.refused("OverLimit 2 2 1", "write", "/c", 1, [1])

    def test_a_dropped_folder_takes_its_limit_along(self):
        keeper = self.keeper
        keeper.limit("/f", soft=1, hard=2)
        self.assertEqual(keeper.limits(), [("/f", 1, 2, None)])
        keeper.drop("/f")
        self.assertEqual(keeper.limits(), [])
        keeper.fold("/f")
        self.assertEqual(keeper.limits(), [])
        keeper.make("/f/x")
        self.let("write", "/f/x", 0, [1] * 9)

    def test_a_dropped_file_and_its_owners_limit(self):
        self.keeper.limit(2, hard=2)
        self.keeper.drop("/c")
        self.assertEqual(self.keeper.limits(), [(2, None, 2, None)])


class FirstTest(LimitCase):
    def test_the_owner_then_folders_from_the_innermost_on(self):
        keeper = self.keeper
        for whose in (1, "/d/e", "/d", "/"):
            keeper.limit(whose, hard=1)
        for whose in (1, "/d/e", "/d", "/"):
            self.refused(f"OverLimit {whose} 2 1", "write", "/d/e/a", 0, [1, 1])
            keeper.limit(whose)
        self.let("write", "/d/e/a", 0, [1, 1])

    def test_an_owners_grace_ahead_of_a_folders_hard_limit(self):
        keeper = self.keeper
        keeper.write("/d/e/a", 0, [1, 1])
        keeper.limit(1, soft=1)
        keeper.limit("/d/e", soft=1)
        keeper.limit("/d", hard=1)
        keeper.tick(3)
        error = self.refused("GraceOver 1 0", "write", "/d/e/a", 2, [1])
        self.assertEqual((error.whose, error.began), (1, 0))
        keeper.limit(1)
        self.refused("GraceOver /d/e 0", "write", "/d/e/a", 2, [1])
        keeper.limit("/d/e", hard=2, soft=1)
        self.refused("OverLimit /d/e 3 2", "write", "/d/e/a", 2, [1])
        keeper.limit("/d/e")
        self.refused("OverLimit /d 3 1", "write", "/d/e/a", 2, [1])

    def test_limits_ahead_of_room_and_pledges(self):
        keeper = self.keeper
        keeper.pledge(100)
        keeper.limit("/", hard=1)
        self.refused("OverLimit / 2 1", "write", "/c", 0, [1, 1])
        self.refused("OverLimit / 70 1", "write", "/c", 0, [1] * 60, by=1)
        keeper.limit("/")
        self.refused("NoRoom 2 0 False", "write", "/c", 0, [1, 1])


class GraceTest(LimitCase):
    def test_the_grace_by_told_time(self):
        keeper = self.keeper
        keeper.limit(2, soft=2)
        keeper.tick(4)
        self.let("write", "/c", 0, [1, 1])
        self.assertEqual(keeper.limits(), [(2, 2, None, None)])
        self.let("write", "/c", 2, [1])
        self.assertEqual(keeper.limits(), [(2, 2, None, 4)])
        keeper.tick(2)
        self.let("write", "/c", 3, [1])
        self.assertEqual(keeper.limits(), [(2, 2, None, 4)])
        keeper.tick()
        self.assertEqual(keeper.now(), 7)
        self.refused("GraceOver 2 4", "write", "/c", 4, [1])
        self.let("write", "/c", 0, [2] * 4)
        keeper.shorten("/c", 2)
        self.assertEqual(keeper.limits(), [(2, 2, None, None)])
        self.let("write", "/c", 2, [1])
        self.assertEqual(keeper.limits(), [(2, 2, None, 7)])

    def test_beginnings_by_each_deed(self):
        keeper = self.keeper
        keeper.write("/c", 0, [1] * 3)
        keeper.settle()
        for whose in (1, "/f", "/d"):
            keeper.limit(whose, soft=2)
        keeper.tick(1)
        keeper.give("/c", 1)
        self.assertEqual(keeper.limits(), [(1, 2, None, 1), ("/d", 2, None, None), ("/f", 2, None, None)])
        keeper.tick(1)
        keeper.move("/c", "/f/c")
        self.assertEqual(keeper.limits(), [(1, 2, None, 1), ("/d", 2, None, None), ("/f", 2, None, 2)])
        keeper.tick(1)
        keeper.twin("/f/c", "/d/t", owner=3)
        self.assertEqual(keeper.limits(), [(1, 2, None, 1), ("/d", 2, None, 3), ("/f", 2, None, 2)])
        keeper.give("/f/c", 2)
        keeper.move("/f/c", "/c")
        keeper.drop("/d/t")
        self.assertEqual(keeper.limits(), [(1, 2, None, None), ("/d", 2, None, None), ("/f", 2, None, None)])
        keeper.reserve("/d/b", 0, 3)
        self.assertEqual(keeper.limits(), [(1, 2, None, 3), ("/d", 2, None, 3), ("/f", 2, None, None)])
        keeper.hole("/d/b", 1, 1)
        self.assertEqual(keeper.limits(), [(1, 2, None, None), ("/d", 2, None, None), ("/f", 2, None, None)])

    def test_a_limit_that_is_set_begins(self):
        keeper = self.keeper
        keeper.write("/c", 0, [1] * 3)
        keeper.tick(2)
        keeper.limit(2, soft=2)
        self.assertEqual(keeper.limits(), [(2, 2, None, 2)])
        keeper.tick(2)
        keeper.limit(2, soft=1, hard=9)
        self.assertEqual(keeper.limits(), [(2, 1, 9, 2)])
        keeper.limit(2, soft=3, hard=9)
        self.assertEqual(keeper.limits(), [(2, 3, 9, None)])

    def test_twin_move_and_give_are_refused_by_the_grace(self):
        keeper = self.keeper
        keeper.make("/f/x", owner=4)
        keeper.write("/c", 0, [1] * 3)
        keeper.write("/f/x", 0, [1] * 3)
        keeper.settle()
        keeper.limit("/f", soft=1)
        keeper.limit(4, soft=1)
        keeper.tick(3)
        self.refused("GraceOver 4 0", "twin", "/f/x", "/t")
        self.refused("GraceOver /f 0", "twin", "/f/x", "/f/t", owner=5)
        self.refused("GraceOver /f 0", "move", "/c", "/f/c")
        self.refused("GraceOver 4 0", "give", "/c", 4)

    def test_no_grace_at_all(self):
        keeper = self.store(50, grace=0)
        keeper.make("/a")
        keeper.limit(0, soft=1)
        self.let("write", "/a", 0, [1, 1])
        self.refused("GraceOver 0 0", "write", "/a", 2, [1])


class DeedTest(LimitCase):
    def test_limit_refused_in_order(self):
        self.refused("BadOwner 10", "limit", 10, soft=-1, hard=-1)
        self.refused("BadOwner -1", "limit", -1, soft=-1, hard=-1)
        self.refused("BadPath x", "limit", "x", soft=-1, hard=-1)
        self.refused("NoFolder /no", "limit", "/no", soft=-1, hard=-1)
        self.refused("NoFolder /c", "limit", "/c", soft=-1, hard=-1)
        error = self.refused("BadMany -1", "limit", "/", soft=-1, hard=-2)
        self.assertEqual(error.many, -1)
        self.refused("BadMany -2", "limit", "/", soft=0, hard=-2)
        self.refused("BadMany -2", "limit", 0, hard=-2)
        self.refused("BadMany -1", "limit", 0, soft=-1)
        self.let("limit", "/", soft=0, hard=0)

    def test_limits_are_shown_in_order(self):
        keeper = self.keeper
        for whose in ("/f", 9, "/", 0, "/d/e", 2, "/d"):
            keeper.limit(whose, hard=50)
        self.assertEqual([row[0] for row in keeper.limits()], [0, 2, 9, "/", "/d", "/d/e", "/f"])
        keeper.limit("/d")
        keeper.limit(9, soft=None, hard=None)
        self.assertEqual([row[0] for row in keeper.limits()], [0, 2, "/", "/d/e", "/f"])

    def test_tick(self):
        self.assertEqual(self.keeper.now(), 0)
        self.let("tick")
        self.let("tick", 4)
        self.let("tick", 0)
        self.assertEqual(self.keeper.now(), 5)
        self.refused("BadMany -1", "tick", -1)


if __name__ == "__main__":
    unittest.main()
