"""Promises 8 to 14 over the keeper: each deed and question, its refusals, and the order of these."""

import unittest

from keeping import KeeperCase
from latestow import errors
from latestow.bounds import FILES, FOLDERS
from latestow.disk import Disk
from latestow.keeper import Keeper
from latestow.spans import Spans
from plain import state_of

NO_PATHS = ("", "a", "//", "/a/", "/A", "/a b", "/a\n", "/ninesigns", "/a/b/c/d/e/f", "/a//b", "/.")


class NamesTest(KeeperCase):
    def setUp(self):
        keeper = self.store()
        keeper.fold("/d")
        keeper.make("/a", owner=1)

    def test_make(self):
        self.let("make", "/d/b", owner=9)
        self.let("make", "/c")
        keeper = self.keeper
        self.assertEqual(keeper.files(), ["/a", "/c", "/d/b"])
        self.assertEqual([keeper.owner_of(path) for path in keeper.files()], [1, 0, 9])
        self.assertEqual((keeper.pages_of("/c"), keeper.runs_of("/c"), keeper.sheets_of("/c")), ([], [], []))
        self.assertEqual((keeper.left(), keeper.charge_of("/")), (60, 0))

    def test_make_refused_in_order(self):
        for path in NO_PATHS + ("/",):
            self.refused(f"BadPath {path}", "make", path, owner=10)
        self.refused("NoFolder /no", "make", "/no/a", owner=10)
        self.refused("NoFolder /a", "make", "/a/b", owner=10)
        self.refused("NoFolder /d/e", "make", "/d/e/f", owner=10)
        self.refused("Taken /a", "make", "/a", owner=10)
        self.refused("Taken /d", "make", "/d", owner=-1)
        self.refused("BadOwner 10", "make", "/b", owner=10)
        self.refused("BadOwner -1", "make", "/b", owner=-1)

    def test_at_most_so_many_files(self):
        for at in range(FILES - 1):
            self.let("make", f"/d/f{at}")
        self.assertEqual(len(self.keeper.files()), 24)
        error = self.refused("Crowded 24", "make", "/b")
        self.assertEqual(error.most, FILES)
        self.refused("BadOwner 11", "make", "/b", owner=11)
        self.refused("Taken /a", "make", "/a")
        self.refused("Crowded 24", "twin", "/a", "/b")
        self.let("fold", "/e")
        self.let("move", "/a", "/b")
        self.keeper.drop("/b")
        self.let("make", "/b")

    def test_fold(self):
        self.let("fold", "/d/e")
        self.assertEqual(self.keeper.folders(), ["/", "/d", "/d/e"])
        self.assertEqual(self.keeper.files(), ["/a"])

    def test_fold_refused_in_order(self):
        for path in NO_PATHS + ("/",):
            self.refused(f"BadPath {path}", "fold", path)
        self.refused("NoFolder /no", "fold", "/no/a")
        self.refused("NoFolder /a", "fold", "/a/b")
        self.refused("Taken /a", "fold", "/a")
        self.refused("Taken /d", "fold", "/d")

    def test_at_most_so_many_folders(self):
        for at in range(FOLDERS - 1):
            self.let("fold", f"/d/g{at}")
        self.assertEqual(len(self.keeper.folders()), 13)
        error = self.refused("Crowded 12", "fold", "/b")
        self.assertEqual(error.most, FOLDERS)
        self.refused("Taken /d", "fold", "/d")
        self.refused("NoFolder /no", "fold", "/no/a")
        self.let("make", "/b")
        self.keeper.drop("/d/g0")
        self.let("fold", "/d/g0")

    def test_five_names_deep(self):
        for path in ("/d/2", "/d/2/3", "/d/2/3/4", "/d/2/3/4/5"):
            self.let("fold", path)
        self.refused("BadPath /d/2/3/4/5/6", "make", "/d/2/3/4/5/6")
        self.let("make", "/d/2/3/4/x")

    def test_drop(self):
        self.let("drop", "/a")
        self.let("drop", "/d")
        self.assertEqual((self.keeper.files(), self.keeper.folders()), ([], ["/"]))
        self.let("fold", "/a")
        self.let("make", "/d")
        self.assertEqual((self.keeper.files(), self.keeper.folders()), (["/d"], ["/", "/a"]))

    def test_drop_refused_in_order(self):
        for path in NO_PATHS + ("/",):
            self.refused(f"BadPath {path}", "drop", path)
        self.refused("NoFile /no", "drop", "/no")
        self.refused("NoFile /no/a", "drop", "/no/a")
        self.keeper.make("/d/b")
        self.refused("NotEmpty /d", "drop", "/d")
        self.keeper.drop("/d/b")
        self.keeper.fold("/d/e")
        self.refused("NotEmpty /d", "drop", "/d")
        self.keeper.drop("/d/e")
        self.let("drop", "/d")

    def test_a_folder_beside_one_with_a_longer_name(self):
        self.keeper.fold("/d2")
        self.keeper.make("/d2/x")
        self.let("drop", "/d")

    def test_move(self):
        keeper = self.keeper
        keeper.write("/a", 0, [4, 5])
        keeper.settle()
        keeper.write("/a", 1, [6])
        told = (keeper.pages_of("/a"), keeper.runs_of("/a"), keeper.read("/a", 0, 60), keeper.left())
        self.let("move", "/a", "/d/z")
        self.assertEqual(keeper.files(), ["/d/z"])
        self.assertEqual((keeper.pages_of("/d/z"), keeper.runs_of("/d/z"), keeper.read("/d/z", 0, 60), keeper.left()), told)
        self.assertEqual((keeper.owner_of("/d/z"), keeper.charge_of("/d")), (1, 2))

    def test_a_moved_file_keeps_its_sheets(self):
        self.scattered("/a", 10)
        sheets = self.keeper.sheets_of("/a")
        self.assertEqual(len(sheets), 2)
        self.keeper.move("/a", "/d/z")
        self.keeper.make("/a")
        self.assertEqual((self.keeper.sheets_of("/d/z"), self.keeper.sheets_of("/a")), (sheets, []))
        self.keeper.settle()
        self.assertEqual((self.keeper.sheets_of("/d/z"), self.keeper.sheets_of("/a")), (sheets, []))

    def test_move_refused_in_order(self):
        for path in NO_PATHS:
            self.refused(f"BadPath {path}", "move", path, "")
        self.refused("NoFile /no", "move", "/no", "")
        self.refused("NoFile /d", "move", "/d", "/e")
        self.refused("NoFile /", "move", "/", "/e")
        for path in NO_PATHS + ("/",):
            self.refused(f"BadPath {path}", "move", "/a", path)
        self.refused("NoFolder /no", "move", "/a", "/no/a")
        self.refused("NoFolder /a", "move", "/a", "/a/b")
        self.refused("Taken /d", "move", "/a", "/d")
        self.refused("Taken /a", "move", "/a", "/a")

    def test_give(self):
        self.keeper.write("/a", 0, [1, 2])
        self.let("give", "/a", 4)
        self.assertEqual((self.keeper.owner_of("/a"), self.keeper.charge_of(1), self.keeper.charge_of(4)), (4, 0, 2))
        self.let("give", "/a", 4)
        self.let("give", "/a", 0)
        self.assertEqual(self.keeper.owner_of("/a"), 0)

    def test_give_refused_in_order(self):
        for path in NO_PATHS:
            self.refused(f"BadPath {path}", "give", path, 10)
        self.refused("NoFile /no", "give", "/no", 10)
        self.refused("NoFile /d", "give", "/d", 10)
        self.refused("BadOwner 10", "give", "/a", 10)
        self.refused("BadOwner -1", "give", "/a", -1)

    def test_questions_of_a_file_refused_in_order(self):
        for deed in ("owner_of", "pages_of", "runs_of", "sheets_of", "settle"):
            for path in NO_PATHS:
                self.refused(f"BadPath {path}", deed, path)
            for path in ("/no", "/d", "/", "/a/b"):
                self.refused(f"NoFile {path}", deed, path)

    def test_charge_of_refused_in_order(self):
        self.refused("BadOwner 10", "charge_of", 10)
        self.refused("BadOwner -1", "charge_of", -1)
        for path in NO_PATHS:
            self.refused(f"BadPath {path}", "charge_of", path)
        self.refused("NoFolder /no", "charge_of", "/no")
        self.refused("NoFolder /a", "charge_of", "/a")

    def test_classes_of_the_refusals(self):
        self.assertIsInstance(self.refused("NoFile /no", "drop", "/no"), errors.Missing)
        self.assertIsInstance(self.refused("NoFolder /no", "fold", "/no/a"), LookupError)
        self.assertIsInstance(self.refused("Taken /a", "fold", "/a"), ValueError)
        self.assertIsInstance(self.refused("NoPledge 1", "release", 1), KeyError)


class WriteTest(KeeperCase):
    def setUp(self):
        keeper = self.store()
        keeper.fold("/d")
        keeper.make("/a")

    def test_late_pages(self):
        keeper = self.keeper
        values = [7, 0, 10 ** 12 - 1]
        self.let("write", "/a", 2, values)
        values[0] = 1
        self.assertEqual(keeper.pages_of("/a"), [(2, "late"), (3, "late"), (4, "late")])
        self.assertEqual(keeper.read("/a", 0, 6), [0, 0, 7, 0, 10 ** 12 - 1, 0])
        self.assertEqual((keeper.runs_of("/a"), self.disk.writes), ([], 0))
        self.let("write", "/a", 3, [8])
        self.assertEqual(keeper.read("/a", 2, 2), [7, 8])

    def test_the_edges(self):
        self.let("write", "/a", 0, [])
        self.let("write", "/a", 60, [])
        self.let("write", "/a", 59, [1])
        self.assertEqual(self.keeper.pages_of("/a"), [(59, "late")])
        self.store(100).make("/a")
        self.let("write", "/a", 0, list(range(60)))
        self.assertEqual(self.keeper.read("/a", 0, 60), list(range(60)))

    def test_refused_in_order(self):
        for path in NO_PATHS:
            self.refused(f"BadPath {path}", "write", path, -1, [1], by=9)
        for path in ("/no", "/d", "/"):
            self.refused(f"NoFile {path}", "write", path, -1, [1], by=9)
        for page, values in ((-1, []), (-1, [1]), (-5, [1] * 10), (60, [1]), (61, []), (59, [1, 2]), (0, [1] * 61)):
            error = self.refused(f"BadPage {page}", "write", "/a", page, values, by=9)
            self.assertEqual(error.page, page)
        self.keeper.limit(0, hard=0)
        self.keeper.pledge(58)
        for by in (0, 2, 9, -1):
            error = self.refused(f"NoPledge {by}", "write", "/a", 0, [1] * 20, by=by)
            self.assertEqual(error.ticket, by)
            self.refused(f"NoPledge {by}", "write", "/a", 0, [], by=by)
        self.refused("OverLimit 0 23 0", "write", "/a", 0, [1] * 20)
        self.refused("OverLimit 0 23 0", "write", "/a", 0, [1] * 20, by=1)
        self.keeper.limit(0)
        error = self.refused("NoRoom 23 2 False", "write", "/a", 0, [1] * 20)
        self.assertEqual((error.asked, error.there, error.helps), (23, 2, False))
        self.refused("Dry 1 70 58", "write", "/a", 0, [1] * 60, by=1)

    def test_reserve(self):
        keeper = self.keeper
        keeper.write("/a", 1, [5])
        self.let("reserve", "/a", 0, 4)
        self.assertEqual(keeper.pages_of("/a"), [(0, "due"), (1, "late"), (2, "due"), (3, "due")])
        self.assertEqual(keeper.read("/a", 0, 4), [0, 5, 0, 0])
        self.let("write", "/a", 0, [9])
        self.assertEqual(keeper.pages_of("/a")[:2], [(0, "late"), (1, "late")])
        self.assertEqual((keeper.left(), keeper.charge_of(0)), (60 - 5, 5))

    def test_reserve_at_the_edges(self):
        self.let("reserve", "/a", 0, 0)
        self.let("reserve", "/a", 60, 0)
        self.assertEqual(self.keeper.pages_of("/a"), [])
        self.let("reserve", "/a", 59, 1)
        self.store(100).make("/a")
        self.let("reserve", "/a", 0, 60)
        self.assertEqual(len(self.keeper.pages_of("/a")), 60)

    def test_reserve_refused_in_order(self):
        for path in NO_PATHS:
            self.refused(f"BadPath {path}", "reserve", path, -1, -1, by=9)
        for path in ("/no", "/d", "/"):
            self.refused(f"NoFile {path}", "reserve", path, -1, -1, by=9)
        self.refused("BadMany -1", "reserve", "/a", -1, -1, by=9)
        self.refused("BadMany -7", "reserve", "/a", 0, -7, by=9)
        for page, many in ((-1, 0), (-1, 5), (60, 1), (61, 0), (59, 2), (0, 61)):
            self.refused(f"BadPage {page}", "reserve", "/a", page, many, by=9)
        self.keeper.limit(0, hard=0)
        self.keeper.pledge(58)
        self.refused("NoPledge 9", "reserve", "/a", 0, 20, by=9)
        self.refused("NoPledge 9", "reserve", "/a", 0, 0, by=9)
        self.refused("OverLimit 0 23 0", "reserve", "/a", 0, 20)
        self.keeper.limit(0)
        self.refused("NoRoom 23 2 False", "reserve", "/a", 0, 20)
        self.refused("Dry 1 70 58", "reserve", "/a", 0, 60, by=1)

    def test_hole(self):
        keeper = self.keeper
        keeper.write("/a", 0, [1, 2])
        keeper.reserve("/a", 2, 2)
        keeper.settle()
        keeper.write("/a", 0, [3])
        keeper.write("/a", 3, [4, 5])
        keeper.reserve("/a", 5, 1)
        for page in (0, 3, 4):
            self.let("hole", "/a", page, 1)
        self.assertEqual(keeper.pages_of("/a"), [(1, "kept"), (2, "aside"), (5, "due")])
        self.assertEqual(keeper.read("/a", 0, 6), [0, 2, 0, 0, 0, 0])
        self.let("hole", "/a", 0, 0)
        self.let("hole", "/a", 60, 0)
        self.let("hole", "/a", 59, 1)
        self.let("hole", "/a", 0, 60)
        self.assertEqual(keeper.pages_of("/a"), [])

    def test_shorten(self):
        keeper = self.keeper
        keeper.write("/a", 0, [1, 2, 3])
        keeper.settle()
        keeper.write("/a", 2, [4, 5])
        keeper.reserve("/a", 59, 1)
        self.let("shorten", "/a", 60)
        self.assertEqual(len(keeper.pages_of("/a")), 5)
        self.let("shorten", "/a", 59)
        self.assertEqual(len(keeper.pages_of("/a")), 4)
        self.let("shorten", "/a", 2)
        self.assertEqual(keeper.pages_of("/a"), [(0, "kept"), (1, "kept")])
        self.let("shorten", "/a", 0)
        self.assertEqual(keeper.pages_of("/a"), [])

    def test_hole_read_and_shorten_refused_in_order(self):
        for deed in ("hole", "read"):
            for path in NO_PATHS:
                self.refused(f"BadPath {path}", deed, path, -1, -1)
            for path in ("/no", "/d", "/"):
                self.refused(f"NoFile {path}", deed, path, -1, -1)
            self.refused("BadMany -1", deed, "/a", -1, -1)
            for page, many in ((-1, 0), (-1, 5), (60, 1), (61, 0), (59, 2), (0, 61)):
                self.refused(f"BadPage {page}", deed, "/a", page, many)
        self.refused("BadPath x", "shorten", "x", -1)
        self.refused("NoFile /d", "shorten", "/d", -1)
        for pages in (-1, 61, 100):
            self.refused(f"BadPage {pages}", "shorten", "/a", pages)

    def test_read_at_the_edges(self):
        self.assertEqual(self.keeper.read("/a", 0, 0), [])
        self.assertEqual(self.keeper.read("/a", 60, 0), [])
        self.assertEqual(self.keeper.read("/a", 59), [0])
        self.keeper.write("/a", 59, [3])
        self.assertEqual(self.keeper.read("/a", 59), [3])

    def test_numbers_beyond_the_limit_are_no_error(self):
        self.let("write", "/a", 0, [-1, 10 ** 12])
        self.assertEqual(self.keeper.read("/a", 0, 2), [-1, 10 ** 12])


class SettleTest(KeeperCase):
    def setUp(self):
        self.store(20).make("/a")

    def test_late_is_written_and_due_is_set_aside(self):
        keeper = self.keeper
        keeper.write("/a", 0, [7, 8])
        keeper.reserve("/a", 2, 2)
        self.let("settle")
        self.assertEqual(keeper.pages_of("/a"), [(0, "kept"), (1, "kept"), (2, "aside"), (3, "aside")])
        self.assertEqual(keeper.runs_of("/a"), [(0, 0, 2, 1), (2, 2, 2, 0)])
        self.assertEqual(keeper.read("/a", 0, 4), [7, 8, 0, 0])
        self.assertEqual(keeper.free(), Spans(range(4, 20)))
        self.assertEqual([self.disk.read(("block", at)) for at in range(4)], [7, 8, None, None])

    def test_what_is_written_gets_a_block_beside(self):
        keeper = self.keeper
        keeper.write("/a", 0, [7, 8])
        keeper.settle()
        keeper.write("/a", 0, [9])
        self.assertEqual(keeper.runs_of("/a"), [(0, 0, 2, 1)])
        self.assertEqual((keeper.read("/a", 0, 2), self.disk.read(("block", 0))), ([9, 8], 7))
        keeper.settle()
        self.assertEqual(keeper.runs_of("/a"), [(0, 2, 1, 1), (1, 1, 1, 1)])
        # The elder block is free only behind the settling that let it go.
        self.assertEqual(keeper.free(), Spans([0, *range(3, 20)]))
        keeper.write("/a", 0, [10])
        keeper.settle()
        self.assertEqual(keeper.runs_of("/a"), [(0, 0, 2, 1)])

    def test_a_block_let_go_is_not_given_out_in_the_same_settling(self):
        keeper = self.keeper
        keeper.write("/a", 0, [1] * 3)
        keeper.settle()
        keeper.hole("/a", 0, 1)
        keeper.write("/a", 0, [2])
        keeper.drop("/a")
        keeper.make("/b")
        keeper.write("/b", 0, [3] * 3)
        self.assertEqual(keeper.free(), Spans(range(3, 20)))
        keeper.settle()
        self.assertEqual(keeper.runs_of("/b"), [(0, 3, 3, 1)])
        self.assertEqual(keeper.free(), Spans([0, 1, 2, *range(6, 20)]))

    def test_what_is_set_aside_is_written_where_it_lies(self):
        keeper = self.keeper
        keeper.reserve("/a", 0, 3)
        keeper.settle()
        keeper.write("/a", 1, [9])
        self.assertEqual(keeper.pages_of("/a"), [(0, "aside"), (1, "late"), (2, "aside")])
        self.assertEqual(keeper.left(), 17)
        keeper.settle()
        self.assertEqual(keeper.runs_of("/a"), [(0, 0, 1, 0), (1, 1, 1, 1), (2, 2, 1, 0)])
        self.assertEqual((keeper.read("/a", 0, 3), self.disk.read(("block", 1))), ([0, 9, 0], 9))

    def test_one_file_and_the_others_stay(self):
        keeper = self.keeper
        keeper.make("/b")
        keeper.write("/a", 0, [1])
        keeper.write("/b", 0, [2])
        keeper.reserve("/b", 1, 1)
        self.let("settle", "/b")
        self.assertEqual((keeper.pages_of("/a"), keeper.pages_of("/b")), ([(0, "late")], [(0, "kept"), (1, "aside")]))
        self.assertEqual(keeper.runs_of("/b"), [(0, 0, 1, 1), (1, 1, 1, 0)])
        keeper.write("/b", 0, [3])
        keeper.write("/b", 1, [4])
        keeper.settle("/a")
        self.assertEqual((keeper.pages_of("/b"), keeper.read("/b", 0, 2)), ([(0, "late"), (1, "late")], [3, 4]))
        self.assertEqual((keeper.runs_of("/b"), keeper.runs_of("/a")), ([(0, 0, 1, 1), (1, 1, 1, 0)], [(0, 2, 1, 1)]))

    def test_files_go_by_path(self):
        keeper = self.keeper
        keeper.fold("/a0")
        for path in ("/b", "/a0/x", "/a00"):
            keeper.make(path)
            keeper.write(path, 0, [1])
        keeper.write("/a", 0, [1])
        keeper.settle()
        told = {path: keeper.runs_of(path)[0][1] for path in keeper.files()}
        self.assertEqual(keeper.files(), ["/a", "/a0/x", "/a00", "/b"])
        self.assertEqual(told, {"/a": 0, "/a0/x": 1, "/a00": 2, "/b": 3})

    def test_a_settling_writes_the_number_handed_in_last(self):
        keeper = self.keeper
        for number in (1, 2, 3):
            keeper.write("/a", 0, [number])
        keeper.settle()
        self.assertEqual((keeper.read("/a", 0), self.disk.read(("block", 0))), ([3], 3))

    def test_reading_a_settled_page_is_reading_its_block(self):
        self.keeper.write("/a", 0, [1])
        self.keeper.settle()
        self.disk.put(("block", 0), 55)
        self.assertEqual(self.keeper.read("/a", 0), [55])


class SheetsTest(KeeperCase):
    def setUp(self):
        self.store(100).make("/a")

    def test_three_rows_need_no_sheet(self):
        self.scattered("/a", 3)
        self.assertEqual((len(self.keeper.runs_of("/a")), self.keeper.sheets_of("/a")), (3, []))

    def test_sheets_are_the_least_free_blocks_behind_all_pages(self):
        self.scattered("/a", 4)
        self.assertEqual(self.keeper.sheets_of("/a"), [4])
        self.assertEqual(self.disk.read(("block", 4)), ((6, 3, 1, 1),))

    def test_kept_grown_and_let_go(self):
        keeper = self.keeper
        self.scattered("/a", 10)
        self.assertEqual(keeper.sheets_of("/a"), [10, 11])
        # Ahead of the settling the sheets are as last settled.
        keeper.write("/a", 20, [1])
        keeper.write("/a", 22, [1])
        for page in range(24, 34, 2):
            keeper.write("/a", page, [1])
        self.assertEqual(keeper.sheets_of("/a"), [10, 11])
        keeper.settle()
        self.assertEqual((len(keeper.runs_of("/a")), keeper.sheets_of("/a")), (17, [10, 11, 19]))
        keeper.shorten("/a", 12)
        self.assertEqual((len(keeper.runs_of("/a")), keeper.sheets_of("/a")), (6, [10, 11, 19]))
        keeper.settle()
        self.assertEqual(keeper.sheets_of("/a"), [10])
        self.assertTrue(keeper.free().has(11))
        keeper.shorten("/a", 5)
        keeper.settle()
        self.assertEqual((len(keeper.runs_of("/a")), keeper.sheets_of("/a")), (3, []))
        self.assertEqual(keeper.free(), Spans(range(3, 100)))

    def test_the_settling_of_another_file_lays_the_sheets_too(self):
        keeper = self.keeper
        keeper.make("/b")
        self.scattered("/a", 10)
        keeper.hole("/a", 0, 10)
        keeper.settle("/b")
        self.assertEqual((len(keeper.runs_of("/a")), keeper.sheets_of("/a")), (5, [10]))

    def test_a_hole_within_a_row_makes_two(self):
        keeper = self.keeper
        keeper.write("/a", 0, [1] * 9)
        keeper.settle()
        self.assertEqual(keeper.sheets_of("/a"), [])
        for page in (1, 3, 5):
            keeper.hole("/a", page, 1)
        keeper.make("/b")
        keeper.settle("/b")
        self.assertEqual(keeper.runs_of("/a"), [(0, 0, 1, 1), (2, 2, 1, 1), (4, 4, 1, 1), (6, 6, 3, 1)])
        self.assertEqual(keeper.sheets_of("/a"), [9])

    def test_sheets_of_several_files_by_path(self):
        keeper = self.keeper
        for path in ("/c", "/b"):
            keeper.make(path)
        for at in range(10):
            for path in ("/c", "/b", "/a"):
                keeper.write(path, 2 * at, [1])
        keeper.settle()
        self.assertEqual([keeper.sheets_of(path) for path in ("/a", "/b", "/c")], [[30, 31], [32, 33], [34, 35]])


class TwinTest(KeeperCase):
    def setUp(self):
        keeper = self.store(30)
        keeper.fold("/d")
        keeper.make("/a", owner=2)
        keeper.write("/a", 0, [5, 6, 7, 8])
        keeper.reserve("/a", 4, 2)
        keeper.settle()

    def test_the_same_blocks_and_no_page_set_aside(self):
        keeper = self.keeper
        self.let("twin", "/a", "/d/t")
        self.assertEqual(keeper.pages_of("/d/t"), [(0, "kept"), (1, "kept"), (2, "kept"), (3, "kept")])
        self.assertEqual(keeper.runs_of("/d/t"), [(0, 0, 4, 1)])
        self.assertEqual((keeper.read("/d/t", 0, 6), keeper.owner_of("/d/t")), ([5, 6, 7, 8, 0, 0], 2))
        self.assertEqual(keeper.charge_of(2), 7 + 5)
        # Only the sheet that it may need is asked.
        self.assertEqual(keeper.left(), 30 - 6 - 1 - 1)
        keeper.settle()
        self.assertEqual(self.disk.read(("holders", 0)), (2,))
        self.assertEqual(self.disk.read(("holders", 4)), (1,))
        self.assertEqual(keeper.left(), 30 - 6 - 1 - 1)

    def test_another_owner(self):
        self.let("twin", "/a", "/t", owner=0)
        self.assertEqual((self.keeper.owner_of("/t"), self.keeper.charge_of(0)), (0, 5))
        self.let("twin", "/a", "/u", owner=None)
        self.assertEqual(self.keeper.owner_of("/u"), 2)

    def test_of_an_empty_file(self):
        self.keeper.make("/e")
        self.let("twin", "/e", "/f")
        self.assertEqual(self.keeper.pages_of("/f"), [])

    def test_what_was_taken_away_in_hand_is_in_no_twin(self):
        self.keeper.hole("/a", 1, 1)
        self.let("twin", "/a", "/t")
        self.assertEqual(self.keeper.runs_of("/t"), [(0, 0, 1, 1), (2, 2, 2, 1)])

    def test_a_block_is_held_until_none_holds_it(self):
        keeper = self.keeper
        keeper.twin("/a", "/t")
        keeper.settle()
        keeper.drop("/a")
        keeper.settle()
        self.assertEqual(keeper.free(), Spans(range(4, 30)))
        self.assertEqual(keeper.read("/t", 0, 4), [5, 6, 7, 8])
        keeper.drop("/t")
        self.assertEqual(keeper.free(), Spans(range(4, 30)))
        keeper.settle()
        self.assertEqual(keeper.free(), Spans(range(30)))

    def test_the_elder_one_dropped_ahead_of_any_settling(self):
        keeper = self.keeper
        keeper.twin("/a", "/t")
        keeper.drop("/a")
        keeper.settle()
        self.assertEqual((keeper.read("/t", 0, 4), keeper.left()), ([5, 6, 7, 8], 30 - 4 - 1))

    def test_writing_one_of_two_twins(self):
        keeper = self.keeper
        keeper.twin("/a", "/t")
        keeper.write("/a", 0, [50])
        self.assertEqual((keeper.read("/a", 0), keeper.read("/t", 0)), ([50], [5]))
        keeper.settle()
        self.assertEqual((keeper.read("/a", 0), keeper.read("/t", 0)), ([50], [5]))
        self.assertEqual((self.disk.read(("holders", 0)), self.disk.read(("holders", 1))), ((1,), (2,)))
        self.assertEqual(self.disk.read(("block", 0)), 5)

    def test_refused_in_order(self):
        keeper = self.keeper
        for path in NO_PATHS:
            self.refused(f"BadPath {path}", "twin", path, "", owner=10, by=9)
        for path in ("/no", "/d", "/"):
            self.refused(f"NoFile {path}", "twin", path, "", owner=10, by=9)
        keeper.write("/a", 0, [1])
        for at in range(23):
            keeper.make(f"/f{at}")
        for path in NO_PATHS + ("/",):
            self.refused(f"BadPath {path}", "twin", "/a", path, owner=10, by=9)
        self.refused("NoFolder /no", "twin", "/a", "/no/t", owner=10, by=9)
        self.refused("Taken /d", "twin", "/a", "/d", owner=10, by=9)
        self.refused("Taken /a", "twin", "/a", "/a", owner=10, by=9)
        self.refused("BadOwner 10", "twin", "/a", "/t", owner=10, by=9)
        self.refused("BadOwner -1", "twin", "/a", "/t", owner=-1, by=9)
        error = self.refused("Unsettled /a", "twin", "/a", "/t", by=9)
        self.assertEqual(error.path, "/a")
        keeper.settle("/a")
        self.refused("Crowded 24", "twin", "/a", "/t", by=9)
        keeper.drop("/f0")
        keeper.limit(2, hard=11)
        keeper.pledge(keeper.left())
        self.refused("NoPledge 9", "twin", "/a", "/t", by=9)
        self.refused("OverLimit 2 12 11", "twin", "/a", "/t")
        keeper.limit(2)
        self.refused("NoRoom 1 0 False", "twin", "/a", "/t")
        self.let("twin", "/a", "/t", by=1)

    def test_dry(self):
        self.keeper.pledge(1)
        self.keeper.write("/a", 20, [1], by=1)
        self.keeper.settle()
        self.refused("Dry 1 1 0", "twin", "/a", "/t", by=1)

    def test_unsettled(self):
        keeper = self.keeper
        keeper.reserve("/a", 9, 1)
        self.refused("Unsettled /a", "twin", "/a", "/t")
        keeper.hole("/a", 9, 1)
        self.let("twin", "/a", "/t")
        keeper.write("/a", 4, [1])
        self.refused("Unsettled /a", "twin", "/a", "/u")
        keeper.settle("/t")
        self.refused("Unsettled /a", "twin", "/a", "/u")
        keeper.settle("/a")
        self.let("twin", "/a", "/u")


class ToldTest(KeeperCase):
    """Promise 1 over the keeper: what is told is new, and two stores know nothing of one another."""

    def full(self):
        keeper = self.store(60)
        keeper.fold("/d")
        keeper.make("/a")
        self.scattered("/a", 10)
        keeper.write("/a", 1, [1])
        keeper.reserve("/a", 30, 2)
        keeper.limit(0, soft=3, hard=90)
        keeper.pledge(2)
        return keeper

    def test_lists_that_are_told_may_be_changed(self):
        keeper = self.full()
        before = state_of(keeper)
        for told in (keeper.files(), keeper.folders(), keeper.read("/a", 0, 60), keeper.pages_of("/a"),
                     keeper.runs_of("/a"), keeper.sheets_of("/a"), keeper.pledges(), keeper.limits(), keeper.plan(),
                     keeper.census().held, keeper.census().put_by, keeper.census().pledged, keeper.free().blocks()):
            self.assertIsInstance(told, list)
            self.assertTrue(told)
            told.clear()
        self.assertEqual(state_of(keeper), before)
        keeper.settle()
        self.assertEqual(keeper.sheets_of("/a")[:2], before["/a"]["sheets"])

    def test_rows_are_tuples(self):
        keeper = self.full()
        census = keeper.census()
        for rows, many in ((keeper.pages_of("/a"), 2), (keeper.runs_of("/a"), 4), (keeper.pledges(), 2),
                           (keeper.limits(), 4), (keeper.plan(), 3), (census.put_by, 3), (census.pledged, 2)):
            self.assertTrue(all(isinstance(row, tuple) and len(row) == many for row in rows))
        self.assertTrue(all(isinstance(row, tuple) for row in census.held))

    def test_two_keepers_over_two_disks(self):
        one, other = Keeper(Disk(30)), Keeper(Disk(30))
        empty = state_of(other)
        one.make("/a")
        one.write("/a", 0, [1])
        one.limit(0, hard=9)
        one.limit("/", soft=0)
        one.pledge(2)
        one.tick(3)
        mark = one.mark()
        one.settle()
        self.assertEqual(state_of(other), empty)
        other.make("/a")
        other.write("/a", 0, [2])
        other.settle()
        self.assertEqual((one.read("/a", 0), other.read("/a", 0), other.pledge(1)), ([1], [2], 1))
        one.disk.cut()
        with self.assertRaises(errors.Gone):
            one.back(mark)
        self.assertEqual(other.read("/a", 0), [2])

    def test_a_disk_and_its_like(self):
        """All of a store is in the rows of its disk."""
        keeper = self.full()
        keeper.settle()
        like = Disk(60)
        for address in self.disk.addresses():
            like.put(address, self.disk.read(address))
        like.barrier()
        other = Keeper(like)
        before = state_of(Keeper(self.disk))
        self.assertEqual(state_of(other), before)
        other.drop("/a")
        other.tick(3)
        other.settle()
        like.cut()
        self.assertEqual(state_of(Keeper(self.disk)), before)
        self.assertEqual((Keeper(like).files(), keeper.read("/a", 1)), ([], [1]))


if __name__ == "__main__":
    unittest.main()
