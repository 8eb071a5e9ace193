"""Promises 25 and 26: the census and the plan of a keeper. Told ones; drawn ones are in test_histories."""

import unittest

from keeping import KeeperCase
from latestow.papers import Census, adds_up, bears

LET_GO = (("", -1),)


class CensusTest(KeeperCase):
    def told(self, size, held, put_by, pledged, spare):
        """held is a dict of those blocks that are not free."""
        census = self.keeper.census()
        should = Census(size, [held.get(block, ()) for block in range(size)], put_by, pledged, spare)
        self.assertEqual((census.size, census.put_by, census.pledged, census.spare), (size, put_by, pledged, spare))
        self.assertEqual(census.held, should.held)
        self.assertEqual(census, should)
        self.assertTrue(adds_up(census))
        self.assertTrue(bears(census, self.keeper.plan()))

    def planned(self, *rows):
        self.assertEqual(self.keeper.plan(), list(rows))

    def test_a_new_store(self):
        self.store(5)
        self.told(5, {}, [], [], 5)
        self.planned()

    def test_what_is_put_by(self):
        keeper = self.store(20)
        keeper.make("/b")
        keeper.make("/a")
        keeper.make("/e")
        keeper.write("/b", 0, [1, 2])
        keeper.reserve("/a", 3, 4)
        self.told(20, {}, [("/a", 4, 1), ("/b", 2, 0)], [], 13)
        self.planned(("/a", 3, 0), ("/a", 4, 1), ("/a", 5, 2), ("/a", 6, 3), ("/b", 0, 4), ("/b", 1, 5), ("/a", -1, 6))

    def test_pages_sheets_twins_and_what_is_let_go(self):
        keeper = self.store(30)
        keeper.make("/b")
        self.scattered("/b", 4)
        keeper.twin("/b", "/a")
        keeper.hole("/b", 0, 1)
        keeper.write("/b", 2, [9])
        # Block 4 is the sheet of /b; block 1 is still that of page 2, which is late besides.
        self.told(30, {
            0: (("/a", 0),), 1: (("/a", 2), ("/b", 2)), 2: (("/a", 4), ("/b", 4)), 3: (("/a", 6), ("/b", 6)),
            4: (("/b", -1),),
        }, [("/a", 0, 1), ("/b", 1, 0)], [], 23)
        keeper.drop("/a")
        self.told(30, {
            0: LET_GO, 1: (("/b", 2),), 2: (("/b", 4),), 3: (("/b", 6),), 4: (("/b", -1),),
        }, [("/b", 1, 0)], [], 24)

    def test_files_that_are_gone_are_told_as_one(self):
        keeper = self.store(60)
        for path in ("/a", "/b", "/c"):
            keeper.make(path)
            keeper.write(path, 0, [1] * 10)
        keeper.settle()
        # Ten pages in a row need no sheet, but two are put by for each.
        self.assertEqual(keeper.census().put_by, [("/a", 0, 2), ("/b", 0, 2), ("/c", 0, 2)])
        keeper.drop("/c")
        keeper.drop("/a")
        held = {at: LET_GO for at in range(30)}
        held.update({10 + at: (("/b", at),) for at in range(10)})
        self.told(60, held, [("", 0, 4), ("/b", 0, 2)], [], 24)
        self.planned(("", -1, 30), ("", -1, 31), ("", -1, 32), ("", -1, 33), ("/b", -1, 34), ("/b", -1, 35))
        keeper.settle()
        self.assertEqual(keeper.census().put_by, [("/b", 0, 2)])

    def test_gone_with_all_its_sheets(self):
        keeper = self.store(60)
        keeper.make("/a")
        self.scattered("/a", 4)
        keeper.drop("/a")
        self.told(60, {at: LET_GO for at in range(5)}, [], [], 55)

    def test_a_younger_file_at_the_path_of_one_that_is_gone(self):
        keeper = self.store(60)
        keeper.make("/a")
        keeper.write("/a", 0, [1] * 4)
        keeper.settle()
        keeper.drop("/a")
        keeper.make("/a")
        keeper.write("/a", 0, [2])
        self.told(60, {at: LET_GO for at in range(4)}, [("", 0, 1), ("/a", 1, 0)], [], 54)
        self.planned(("/a", 0, 4), ("", -1, 5))

    def test_pledges(self):
        keeper = self.store(12)
        keeper.make("/a")
        keeper.write("/a", 5, [1])
        keeper.pledge(2)
        keeper.pledge(3)
        keeper.part(1, 2)
        self.told(12, {}, [("/a", 1, 0)], [(1, 0), (2, 3), (3, 2)], 6)
        self.planned(("/a", 5, 0), ("", 2, 1), ("", 2, 2), ("", 2, 3), ("", 3, 4), ("", 3, 5))
        self.assertEqual(str(keeper.census()), "12 = 0 held + 1 put by + 5 pledged + 6 left")

    def test_a_moved_file_is_told_by_its_new_path(self):
        keeper = self.store(30)
        keeper.make("/a")
        self.scattered("/a", 4)
        keeper.move("/a", "/z")
        self.assertEqual(keeper.census().held[4], (("/z", -1),))
        self.assertEqual(keeper.census().held[0], (("/z", 0),))

    def test_the_plans_pages_are_those_of_a_settling_of_all(self):
        keeper = self.store(30)
        for path in ("/a", "/b"):
            keeper.make(path)
            keeper.write(path, 0, [1, 2, 3])
        keeper.settle()
        keeper.hole("/a", 1, 1)
        keeper.settle()
        keeper.write("/b", 1, [4])
        keeper.write("/a", 7, [5, 6])
        keeper.reserve("/b", 9, 1)
        self.planned(("/a", 7, 6), ("/a", 8, 7), ("/b", 1, 1), ("/b", 9, 8), ("/a", -1, 9), ("/b", -1, 10))
        keeper.settle()
        self.assertEqual(keeper.runs_of("/a"), [(0, 0, 1, 1), (2, 2, 1, 1), (7, 6, 2, 1)])
        self.assertEqual(keeper.runs_of("/b"), [(0, 3, 1, 1), (1, 1, 1, 1), (2, 5, 1, 1), (9, 8, 1, 0)])

    def test_a_census_is_of_its_moment(self):
        keeper = self.store(12)
        keeper.make("/a")
        census = keeper.census()
        keeper.write("/a", 0, [1])
        self.assertEqual((census.put_by, census.spare), ([], 12))
        other = keeper.census()
        other.held.clear()
        other.put_by.clear()
        self.assertEqual((len(keeper.census()), keeper.census().put_by), (12, [("/a", 1, 0)]))


if __name__ == "__main__":
    unittest.main()
