"""Promises 15 to 18: what is left, NoRoom and what helps, pledges. Told numbers; drawn ones are in test_histories."""

import copy
import random
import unittest

from drawn import begin, do_both, draw_deed
from keeping import KeeperCase
from latestow.disk import Disk
from latestow.errors import NoRoom
from latestow.keeper import Keeper
from plain import Plain


class LeftTest(KeeperCase):
    def test_a_new_store(self):
        for size in (4, 5, 200):
            keeper = self.store(size)
            self.assertEqual((keeper.left(), keeper.behind()), (size, size))

    def test_pages_that_want_and_the_sheets_they_may_need(self):
        keeper = self.store(60)
        keeper.make("/a")
        for many, taken in ((3, 3), (4, 5), (9, 10), (10, 12), (15, 17), (16, 19)):
            keeper.write("/a", 0, [1] * many)
            self.assertEqual((keeper.left(), keeper.behind()), (60 - taken, 60 - taken))
        keeper.settle()
        self.assertEqual((keeper.left(), keeper.behind()), (41, 41))

    def test_due_pages_want(self):
        keeper = self.store(60)
        keeper.make("/a")
        keeper.reserve("/a", 0, 4)
        self.assertEqual(keeper.left(), 55)
        keeper.write("/a", 0, [1, 1])
        self.assertEqual(keeper.left(), 55)

    def test_what_is_let_go_comes_back_behind_the_settling(self):
        keeper = self.store(60)
        keeper.make("/a")
        keeper.write("/a", 0, [1] * 10)
        keeper.settle()
        self.assertEqual((keeper.left(), keeper.behind()), (48, 48))
        keeper.hole("/a", 0, 7)
        self.assertEqual((keeper.left(), keeper.behind()), (48, 57))
        keeper.drop("/a")
        self.assertEqual((keeper.left(), keeper.behind()), (48, 60))
        keeper.settle()
        self.assertEqual((keeper.left(), keeper.behind()), (60, 60))

    def test_a_file_at_the_path_of_one_that_is_gone_is_younger(self):
        keeper = self.store(60)
        keeper.make("/a")
        keeper.write("/a", 0, [1] * 10)
        keeper.settle()
        keeper.drop("/a")
        keeper.make("/a")
        self.assertEqual((keeper.left(), keeper.behind()), (48, 60))
        keeper.write("/a", 0, [1] * 10)
        self.assertEqual((keeper.left(), keeper.behind()), (36, 48))

    def test_a_younger_file_that_is_dropped_leaves_nothing(self):
        keeper = self.store(60)
        keeper.make("/a")
        keeper.write("/a", 0, [1] * 10)
        keeper.drop("/a")
        self.assertEqual((keeper.left(), keeper.behind()), (60, 60))

    def test_a_page_that_is_late_besides(self):
        keeper = self.store(60)
        keeper.make("/a")
        keeper.write("/a", 0, [1, 2])
        keeper.reserve("/a", 2, 1)
        keeper.settle()
        keeper.write("/a", 1, [3, 4])
        # The written one wants a block beside; behind a settling its elder block is free.
        self.assertEqual((keeper.left(), keeper.behind()), (56, 57))
        keeper.hole("/a", 1, 1)
        self.assertEqual((keeper.left(), keeper.behind()), (57, 58))

    def test_the_settling_of_one_file(self):
        keeper = self.store(60)
        for path in ("/a", "/b"):
            keeper.make(path)
            keeper.write(path, 0, [1] * 5)
        keeper.settle()
        keeper.write("/a", 0, [2] * 5)
        keeper.write("/b", 0, [2] * 5)
        self.assertEqual((keeper.left(), keeper.behind()), (38, 48))
        keeper.settle("/a")
        self.assertEqual((keeper.left(), keeper.behind()), (43, 48))


class NoRoomTest(KeeperCase):
    def setUp(self):
        keeper = self.store(8)
        keeper.make("/a")
        keeper.make("/b")
        keeper.write("/a", 0, [1, 2, 3])
        keeper.settle()
        keeper.write("/a", 0, [4, 5, 6])
        self.assertEqual((keeper.left(), keeper.behind()), (2, 5))

    def test_just_what_is_left(self):
        self.let("write", "/b", 0, [1, 2])
        self.assertEqual(self.keeper.left(), 0)

    def test_a_settling_helps(self):
        error = self.refused("NoRoom 3 2 True", "write", "/b", 0, [1, 2, 3])
        self.assertEqual((error.asked, error.there, error.helps), (3, 2, True))
        self.refused("NoRoom 5 2 True", "write", "/b", 0, [1, 2, 3, 4])
        self.refused("NoRoom 5 2 True", "reserve", "/b", 0, 4)
        self.refused("NoRoom 5 2 True", "pledge", 5)
        self.keeper.settle()
        self.let("write", "/b", 0, [1, 2, 3, 4])
        self.assertEqual(self.keeper.left(), 0)

    def test_a_settling_does_not_help(self):
        error = self.refused("NoRoom 6 2 False", "write", "/b", 0, [1, 2, 3, 4, 5])
        self.assertIs(error.helps, False)
        self.refused("NoRoom 6 2 False", "reserve", "/b", 0, 5)
        self.refused("NoRoom 6 2 False", "pledge", 6)
        self.keeper.settle()
        self.refused("NoRoom 6 5 False", "write", "/b", 0, [1, 2, 3, 4, 5])

    def test_behind_a_settling_the_same_deed_may_ask_more(self):
        # Pages 0 to 2 are late now; behind a settling they are written and want blocks beside.
        self.refused("NoRoom 4 2 False", "write", "/a", 0, [1] * 6)
        self.refused("NoRoom 4 2 True", "write", "/a", 3, [1] * 3)
        self.keeper.settle()
        self.refused("NoRoom 7 5 False", "write", "/a", 0, [1] * 6)
        self.let("write", "/a", 3, [1] * 3)

    def test_behind_a_settling_what_is_due_is_set_aside(self):
        self.keeper.reserve("/b", 0, 2)
        self.refused("NoRoom 1 0 True", "write", "/b", 0, [1] * 3)
        self.keeper.settle()
        self.let("write", "/b", 0, [1] * 3)

    def test_a_page_set_aside_and_late_is_written_behind_a_settling(self):
        keeper = self.store(8)
        keeper.make("/a")
        keeper.make("/b")
        keeper.reserve("/a", 0, 3)
        keeper.settle()
        keeper.write("/a", 0, [1, 1, 1])
        keeper.write("/b", 0, [1, 1, 1])
        self.assertEqual((keeper.left(), keeper.behind()), (2, 2))
        self.let("write", "/a", 0, [2, 2, 2])
        keeper.settle()
        self.refused("NoRoom 3 2 False", "write", "/a", 0, [2, 2, 2])

    def test_nothing_asked_is_never_refused(self):
        keeper = self.keeper
        keeper.reserve("/b", 0, 2)
        self.assertEqual(keeper.left(), 0)
        self.let("write", "/a", 0, [7, 8, 9])
        self.let("write", "/b", 1, [5])
        self.let("write", "/b", 20, [])
        self.let("reserve", "/a", 0, 3)
        self.let("make", "/c")
        self.let("twin", "/c", "/d")
        self.let("fold", "/e")
        self.let("move", "/a", "/e/a")
        self.let("give", "/e/a", 3)
        self.let("hole", "/e/a", 2, 1)
        self.let("shorten", "/b", 1)
        self.let("drop", "/d")
        self.let("settle", "/b")
        self.let("settle")
        keeper.pledge(keeper.left())
        keeper.write("/b", 0, [4])
        self.assertEqual(keeper.left(), 0)
        self.let("settle")

    def test_nothing_left_and_set_aside_pages_are_written(self):
        keeper = self.store(4)
        keeper.make("/a")
        keeper.reserve("/a", 0, 3)
        keeper.settle()
        keeper.pledge(1)
        self.let("write", "/a", 0, [1, 2, 3])
        self.assertEqual(keeper.left(), 0)
        self.let("settle")
        self.refused("NoRoom 1 0 False", "write", "/a", 0, [9])

    def test_twin(self):
        keeper = self.store(8)
        keeper.make("/a")
        keeper.write("/a", 0, [1] * 4)
        keeper.settle()
        keeper.pledge(3)
        keeper.make("/b")
        self.assertEqual((keeper.left(), keeper.behind()), (0, 0))
        self.refused("NoRoom 1 0 False", "twin", "/a", "/t")
        keeper.hole("/a", 0, 1)
        self.let("twin", "/a", "/t")

    def test_twin_that_a_settling_helps(self):
        keeper = self.store(12)
        for path in ("/a", "/b"):
            keeper.make(path)
            keeper.write(path, 0, [1] * 4)
        keeper.settle()
        keeper.pledge(2)
        keeper.drop("/b")
        self.assertEqual((keeper.left(), keeper.behind()), (0, 5))
        self.refused("NoRoom 1 0 True", "twin", "/a", "/t")
        keeper.settle()
        self.let("twin", "/a", "/t")

    def test_limits_go_ahead_of_the_room(self):
        self.keeper.limit("/", hard=5)
        self.refused("OverLimit / 9 5", "write", "/b", 0, [1] * 5)

    def test_a_full_disk_is_settled(self):
        for size in range(4, 40):
            keeper = self.store(size)
            keeper.make("/a")
            at = 0
            while at < 30:
                try:
                    keeper.write("/a", 2 * at, [at])
                    at += 1
                except NoRoom:
                    break
            keeper.pledge(keeper.left()) if keeper.left() else None
            keeper.settle()
            self.assertEqual(keeper.left(), 0)
            self.assertEqual(keeper.read("/a", 0, 2 * at), [page // 2 if page % 2 == 0 else 0 for page in range(2 * at)])


class HelpsTest(KeeperCase):
    """helps is true just where the same deed is let right behind a settling of all."""

    def test_drawn(self):
        told = {"True": 0, "False": 0}
        for seed in range(60):
            chance = random.Random(seed)
            size = chance.choice((8, 14, 22))
            plain = Plain(size)
            keeper = Keeper(Disk(size))
            begin(self, chance, keeper, plain)
            for at in range(80):
                deed, things, named = draw_deed(chance, plain)
                elder = copy.deepcopy(keeper)
                refusal = do_both(self, keeper, plain, deed, things, named)
                if refusal and refusal.startswith("NoRoom"):
                    helps = refusal.split()[-1]
                    told[helps] += 1
                    self.settled_then(elder, helps, deed, things, named)
        self.assertGreater(min(told.values()), 9)

    def settled_then(self, keeper, helps, deed, things, named):
        keeper.settle()
        if helps == "True":
            getattr(keeper, deed)(*things, **named)
        else:
            with self.assertRaises(NoRoom):
                getattr(keeper, deed)(*things, **named)


class PledgeTest(KeeperCase):
    def setUp(self):
        self.store(20).make("/a")

    def test_numbers(self):
        keeper = self.keeper
        self.assertEqual([keeper.pledge(many) for many in (3, 1, 2)], [1, 2, 3])
        self.assertEqual((keeper.pledges(), keeper.left(), keeper.behind()), ([(1, 3), (2, 1), (3, 2)], 14, 14))
        self.assertEqual(keeper.release(3), 2)
        self.assertEqual(keeper.release(1), 3)
        self.assertEqual((keeper.pledge(4), keeper.pledges()), (4, [(2, 1), (4, 4)]))

    def test_pledge_refused(self):
        for many in (0, -1, -20):
            error = self.refused(f"BadMany {many}", "pledge", many)
            self.assertEqual(error.many, many)
        self.refused("NoRoom 21 20 False", "pledge", 21)
        self.assertEqual(self.keeper.pledge(20), 1)
        self.refused("NoRoom 1 0 False", "pledge", 1)
        self.refused("BadMany 0", "pledge", 0)

    def test_a_write_by_a_pledge(self):
        keeper = self.keeper
        keeper.pledge(6)
        keeper.pledge(2)
        self.let("write", "/a", 0, [1, 2, 3, 4], by=1)
        self.assertEqual((keeper.pledges(), keeper.left()), ([(1, 1), (2, 2)], 12))
        self.let("write", "/a", 0, [5, 6, 7, 8], by=1)
        self.let("write", "/a", 9, [], by=1)
        self.assertEqual(keeper.pledges(), [(1, 1), (2, 2)])
        self.let("reserve", "/a", 9, 1, by=1)
        self.assertEqual(keeper.pledges(), [(1, 0), (2, 2)])
        error = self.refused("Dry 1 1 0", "reserve", "/a", 10, 1, by=1)
        self.assertEqual((error.ticket, error.asked, error.there), (1, 1, 0))
        self.refused("Dry 2 3 2", "write", "/a", 10, [1] * 3, by=2)
        self.let("write", "/a", 0, [1, 1], by=1)

    def test_dry_whatever_is_left(self):
        self.keeper.pledge(1)
        self.assertEqual(self.keeper.left(), 19)
        self.refused("Dry 1 2 1", "write", "/a", 0, [1, 2], by=1)
        self.keeper.write("/a", 0, [1], by=1)
        self.assertEqual((self.keeper.left(), self.keeper.pledges()), (19, [(1, 0)]))

    def test_by_a_pledge_where_nothing_is_left(self):
        self.keeper.pledge(20)
        self.refused("NoRoom 1 0 False", "write", "/a", 0, [1])
        self.let("write", "/a", 0, [1], by=1)
        self.assertEqual((self.keeper.left(), self.keeper.pledges()), (0, [(1, 19)]))
        self.let("settle")
        self.assertEqual((self.keeper.left(), self.keeper.pledges()), (0, [(1, 19)]))

    def test_twin_by_a_pledge(self):
        keeper = self.keeper
        keeper.write("/a", 0, [1] * 10)
        keeper.settle()
        keeper.pledge(3)
        self.let("twin", "/a", "/t", by=1)
        self.assertEqual((keeper.pledges(), keeper.left()), ([(1, 1)], 5))
        self.refused("Dry 1 2 1", "twin", "/a", "/u", by=1)

    def test_part(self):
        keeper = self.keeper
        keeper.pledge(5)
        self.assertEqual(keeper.part(1, 2), 2)
        self.assertEqual((keeper.pledges(), keeper.left()), ([(1, 3), (2, 2)], 15))
        self.assertEqual(keeper.part(1, 3), 3)
        self.assertEqual((keeper.pledges(), keeper.left()), ([(1, 0), (2, 2), (3, 3)], 15))
        self.assertEqual(keeper.release(1), 0)
        self.assertEqual((keeper.pledges(), keeper.left()), ([(2, 2), (3, 3)], 15))

    def test_part_refused_in_order(self):
        self.keeper.pledge(5)
        self.refused("NoPledge 2", "part", 2, 0)
        self.refused("NoPledge 0", "part", 0, 9)
        self.refused("BadMany 0", "part", 1, 0)
        self.refused("BadMany -3", "part", 1, -3)
        error = self.refused("Dry 1 6 5", "part", 1, 6)
        self.assertEqual((error.ticket, error.asked, error.there), (1, 6, 5))
        self.assertEqual(self.keeper.part(1, 5), 2)

    def test_release(self):
        keeper = self.keeper
        keeper.pledge(5)
        self.assertEqual((keeper.release(1), keeper.left(), keeper.pledges()), (5, 20, []))
        error = self.refused("NoPledge 1", "release", 1)
        self.assertEqual(error.ticket, 1)
        self.refused("NoPledge 1", "part", 1, 1)
        self.refused("NoPledge 1", "write", "/a", 0, [1], by=1)
        self.assertEqual(keeper.pledge(1), 2)

    def test_pledges_stay_through_settlings(self):
        self.keeper.pledge(5)
        self.keeper.write("/a", 0, [1])
        self.keeper.settle()
        self.assertEqual((self.keeper.pledges(), self.keeper.left()), ([(1, 5)], 14))
        self.assertEqual(self.keeper.pledge(1), 2)


class DrawnRoomTest(KeeperCase):
    def test_small_disks(self):
        """What is left never falls below nought, and a settling never lacks a block, on disks that are always full."""
        for seed in range(30):
            chance = random.Random(1000 + seed)
            size = chance.choice((4, 9, 16, 25))
            disk, plain = Disk(size), Plain(size)
            keeper = Keeper(disk)
            begin(self, chance, keeper, plain)
            for at in range(80):
                do_both(self, keeper, plain, *draw_deed(chance, plain))
                self.assertGreaterEqual(keeper.left(), 0)
                self.assertGreaterEqual(keeper.behind(), keeper.left())
                self.assertEqual((keeper.left(), keeper.behind()), (plain.left(), plain.behind()))


if __name__ == "__main__":
    unittest.main()
