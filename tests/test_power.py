"""Promises 21 to 23, with 4 and 5: cuts of the power while a settling runs, and while a keeper comes up."""

import copy
import random
import unittest

from drawn import begin, do_both, draw_deed
from latestow.disk import Disk
from latestow.errors import BadPath, Cut, Gone, Stale, Unplayed
from latestow.keeper import Keeper
from latestow.looker import look, mend
from plain import Plain, state_of

EVER = (1 << 400) - 1
# Each deed and question, with things that would be refused for something else ahead of the room.
ASKED = (
    ("make", ("",)), ("fold", ("",)), ("drop", ("/",)), ("write", ("", -1, [])), ("reserve", ("", -1, -1)),
    ("hole", ("", -1, -1)), ("shorten", ("", -1)), ("twin", ("", "")), ("move", ("", "")), ("give", ("", -1)),
    ("limit", (-1,)), ("tick", (-1,)), ("pledge", (0,)), ("part", (0, 0)), ("release", (0,)), ("settle", ()),
    ("settle", ("",)), ("mark", ()), ("files", ()), ("folders", ()), ("owner_of", ("",)), ("read", ("", -1)),
    ("pages_of", ("",)), ("runs_of", ("",)), ("sheets_of", ("",)), ("charge_of", (-1,)), ("left", ()), ("behind", ()),
    ("free", ()), ("pledges", ()), ("limits", ()), ("now", ()), ("census", ()), ("plan", ()),
)


def writings(disk, keeper, path=None):
    """How many writings a settling takes."""
    disk, keeper = copy.deepcopy((disk, keeper))
    before = disk.writes
    keeper.settle(path)
    return disk.writes - before


def throughs(chance, writes):
    singles = [1 << at for at in range(writes)]
    others = [EVER ^ one for one in chance.sample(singles, min(3, len(singles)))]
    return [0, EVER, *chance.sample(singles, min(4, len(singles))), *others, *[chance.getrandbits(60) for at in "abc"]]


class PowerCase(unittest.TestCase):
    def gone(self, keeper, mark):
        for deed, things in ASKED:
            with self.assertRaises(Gone):
                getattr(keeper, deed)(*things)
        with self.assertRaises(Gone) as caught:
            keeper.back(mark)
        self.assertEqual(str(caught.exception), "Gone")

    def rows_are_right(self, disk, plain):
        counts = {address: disk.read(address) for address in disk.addresses() if address[0] in ("charge", "holders")}
        if plain.kept is None:
            self.assertEqual(counts, {})
            return
        self.assertEqual(counts, plain.counts())
        for block, row in plain.blocks().items():
            self.assertEqual(disk.read(("block", block)), row)
        self.assertEqual(look(disk), [])

    def cut_at(self, disk, keeper, many, through, path=None):
        """The disk behind a settling that is cut, as a copy; None where it is not cut."""
        disk, keeper = copy.deepcopy((disk, keeper))
        mark = keeper.mark()
        disk.fuse(many, through=through)
        try:
            keeper.settle(path)
        except Cut:
            self.gone(keeper, mark)
            return disk
        return None

    def looked(self, disk):
        """Whether the looker finds a settling that is not wholly done; it then writes nothing."""
        rows, writes = dict(disk.seen), disk.writes
        try:
            self.assertEqual(look(disk), [])
            unplayed = False
        except Unplayed as e:
            self.assertEqual(str(e), "Unplayed")
            with self.assertRaises(Unplayed):
                mend(disk)
            unplayed = True
        self.assertEqual((disk.seen, disk.writes), (rows, writes))
        return unplayed

    def comes_up(self, disk, ahead, behind, grace):
        """A keeper comes up as one whole settling left it; tells whether as the cut one did."""
        unplayed = ahead.kept is not None and self.looked(disk)
        keeper = Keeper(disk, grace=grace)
        told = state_of(keeper)
        came = told == behind.state()
        if not came:
            self.assertEqual(told, ahead.state())
        if unplayed:
            self.assertTrue(came)
        self.rows_are_right(disk, behind if came else ahead)
        return came

    def cut_everywhere(self, disk, keeper, plain, grace, chance, path=None):
        ahead = plain.come_up()
        settled = plain.clone()
        settled.settle(path)
        behind = settled.come_up()
        writes = writings(disk, keeper, path)
        sure = []
        for many in range(writes + 1):
            for through in throughs(chance, writes):
                after = self.cut_at(disk, keeper, many, through, path)
                self.assertIsNotNone(after)
                again = copy.deepcopy(after)
                came = self.comes_up(after, ahead, behind, grace)
                if through == 0:
                    sure.append(came)
                self.cut_coming_up(again, ahead, behind, grace, chance, came)
        # A settling is sure from one of its writings on.
        self.assertEqual(sure, sorted(sure))
        self.assertIsNone(self.cut_at(disk, keeper, writes + 1, 0, path))

    def cut_coming_up(self, disk, ahead, behind, grace, chance, came):
        """Cuts the coming up itself, again and again: the same settling comes up."""
        for at in range(3):
            disk.fuse(chance.randrange(6), through=chance.choice((0, EVER, chance.getrandbits(9))))
            try:
                Keeper(disk, grace=grace)
                break
            except Cut:
                pass
        disk.fuse(None)
        self.assertEqual(self.comes_up(disk, ahead, behind, grace), came)


class CutTest(PowerCase):
    def history(self, deeds, size=40, grace=5):
        disk, plain = Disk(size), Plain(size, grace)
        keeper = Keeper(disk, grace=grace)
        for deed, *things in deeds:
            do_both(self, keeper, plain, deed, things, {})
        return disk, keeper, plain

    def test_the_first_settling(self):
        disk, keeper, plain = self.history((
            ("make", "/a"), ("fold", "/d"), ("make", "/d/b"), ("write", "/a", 0, [5, 6]), ("reserve", "/d/b", 3, 2),
            ("limit", 0), ("tick", 3),
        ))
        self.cut_everywhere(disk, keeper, plain, 5, random.Random(1))

    def test_a_settling_of_nothing_but_the_time(self):
        disk, keeper, plain = self.history((("tick", 1),))
        self.cut_everywhere(disk, keeper, plain, 5, random.Random(2))

    def crowded_history(self):
        """Maps with sheets; then pages written anew and where they lie, holes, names, owners: all in one settling."""
        first = [("fold", "/d"), ("fold", "/e"), ("make", "/a"), ("make", "/d/b"), ("make", "/c"), ("make", "/x")]
        for page in range(0, 24, 2):
            first += [("write", "/a", page, [page + 100]), ("write", "/d/b", page, [page + 200])]
        first += [("reserve", "/c", 0, 5), ("write", "/x", 0, [1, 2, 3]), ("settle",), ("twin", "/a", "/d/t")]
        first += [("write", "/a", 2, [902]), ("write", "/a", 30, [930]), ("write", "/c", 1, [1, 2]), ("hole", "/c", 4, 1)]
        first += [("drop", "/x"), ("make", "/x"), ("write", "/x", 9, [9]), ("move", "/d/b", "/e/b"), ("give", "/c", 4)]
        first += [("hole", "/e/b", 4, 9), ("reserve", "/x", 20, 2), ("tick", 2), ("limit", 4), ("write", "/e/b", 0, [7])]
        return self.history(first, 80)

    def test_a_crowded_settling_of_all(self):
        disk, keeper, plain = self.crowded_history()
        self.cut_everywhere(disk, keeper, plain, 5, random.Random(3))

    def test_a_crowded_settling_of_one(self):
        for seed, path in enumerate(("/a", "/c", "/d/t")):
            disk, keeper, plain = self.crowded_history()
            self.cut_everywhere(disk, keeper, plain, 5, random.Random(seed), path)

    def test_drawn_histories(self):
        for seed in range(12):
            chance = random.Random(seed)
            size, grace = chance.choice((12, 30, 60)), chance.choice((0, 3))
            disk, plain = Disk(size), Plain(size, grace)
            keeper = Keeper(disk, grace=grace)
            with self.subTest(seed):
                begin(self, chance, keeper, plain)
                for at in range(30):
                    do_both(self, keeper, plain, *draw_deed(chance, plain))
                self.cut_some(disk, keeper, plain, grace, chance)

    def cut_some(self, disk, keeper, plain, grace, chance):
        settled = plain.clone()
        settled.settle()
        writes = writings(disk, keeper)
        for at in range(25):
            after = self.cut_at(disk, keeper, chance.randrange(writes + 1), chance.choice((0, EVER, chance.getrandbits(80))))
            came = self.comes_up(copy.deepcopy(after), plain.come_up(), settled.come_up(), grace)
            self.cut_coming_up(after, plain.come_up(), settled.come_up(), grace, chance, came)

    def test_histories_with_cuts(self):
        """Cut settlings, and on with the keeper that comes up."""
        for seed in range(25):
            chance = random.Random(seed)
            size = chance.choice((12, 30, 60))
            disk, plain = Disk(size), Plain(size)
            keeper = Keeper(disk)
            with self.subTest(seed):
                begin(self, chance, keeper, plain)
                for at in range(60):
                    if chance.random() < 0.1:
                        keeper, plain = self.settle_and_cut(disk, keeper, plain, chance)
                    do_both(self, keeper, plain, *draw_deed(chance, plain))
                    self.assertEqual(state_of(keeper), plain.state())

    def settle_and_cut(self, disk, keeper, plain, chance):
        settled = plain.clone()
        settled.settle()
        disk.fuse(chance.randrange(30), through=chance.getrandbits(40))
        try:
            keeper.settle()
            disk.fuse(None)
            return keeper, settled
        except Cut:
            came = self.comes_up(disk, plain.come_up(), settled.come_up(), 5)
            return Keeper(disk), (settled if came else plain).come_up()


class ComingUpTest(PowerCase):
    def setUp(self):
        self.disk = Disk(40)
        self.keeper = Keeper(self.disk, grace=3)

    def up(self):
        self.disk.cut()
        self.keeper = Keeper(self.disk, grace=3)
        return self.keeper

    def test_a_new_disk_is_a_new_store(self):
        keeper = self.keeper
        self.assertEqual((keeper.files(), keeper.folders(), keeper.now(), keeper.limits()), ([], ["/"], 0, []))
        self.assertEqual((keeper.left(), keeper.behind(), keeper.pledges()), (40, 40, []))
        self.assertEqual(self.disk.writes, 0)

    def test_without_a_sure_settling_all_is_gone(self):
        keeper = self.keeper
        keeper.make("/a")
        keeper.write("/a", 0, [1])
        keeper.fold("/d")
        keeper.limit(0, hard=4)
        keeper.tick(4)
        up = self.up()
        self.assertEqual((up.files(), up.folders(), up.now(), up.limits(), up.left()), ([], ["/"], 0, [], 40))

    def test_late_and_due_pages_are_gone_and_settled_ones_stand(self):
        keeper = self.keeper
        keeper.make("/a", owner=3)
        keeper.write("/a", 0, [10, 11])
        keeper.reserve("/a", 2, 2)
        keeper.settle()
        keeper.write("/a", 1, [21, 22])
        keeper.write("/a", 9, [29])
        keeper.reserve("/a", 11, 1)
        up = self.up()
        self.assertEqual(up.pages_of("/a"), [(0, "kept"), (1, "kept"), (2, "aside"), (3, "aside")])
        self.assertEqual(up.read("/a", 0, 12), [10, 11, 0, 0] + [0] * 8)
        self.assertEqual((up.owner_of("/a"), up.charge_of(3)), (3, 5))

    def test_what_was_taken_away_and_settled_is_away(self):
        keeper = self.keeper
        keeper.make("/a")
        keeper.make("/b")
        keeper.write("/a", 0, [10, 11, 12])
        keeper.settle()
        keeper.hole("/a", 1, 1)
        # Not settled: the hole is gone with the cut.
        up = self.up()
        self.assertEqual(up.read("/a", 0, 3), [10, 11, 12])
        up.hole("/a", 1, 1)
        up.settle("/b")
        self.assertEqual(self.up().pages_of("/a"), [(0, "kept"), (2, "kept")])

    def test_any_settling_brings_everything_else_to_the_disk(self):
        keeper = self.keeper
        for path in ("/a", "/b", "/c"):
            keeper.make(path)
            keeper.write(path, 0, [1, 2])
        keeper.settle()
        keeper.write("/b", 0, [7])
        keeper.fold("/d")
        keeper.move("/b", "/d/b")
        keeper.give("/c", 5)
        keeper.hole("/c", 0, 1)
        keeper.limit("/d", soft=9, hard=10)
        keeper.limit(5, hard=7)
        keeper.tick(2)
        keeper.settle("/a")
        self.assertEqual(keeper.pages_of("/d/b"), [(0, "late"), (1, "kept")])
        up = self.up()
        self.assertEqual((up.files(), up.folders(), up.now()), (["/a", "/c", "/d/b"], ["/", "/d"], 2))
        self.assertEqual(up.limits(), [(5, None, 7, None), ("/d", 9, 10, None)])
        self.assertEqual((up.owner_of("/c"), up.pages_of("/c"), up.read("/d/b", 0)), (5, [(1, "kept")], [1]))

    def test_pledges_live_in_hand_alone(self):
        self.keeper.pledge(5)
        self.keeper.settle()
        self.assertEqual(self.keeper.pledges(), [(1, 5)])
        up = self.up()
        self.assertEqual((up.pledges(), up.left()), ([], 40))
        self.assertEqual(up.pledge(2), 1)

    def test_a_beginning_is_kept_where_the_charge_is_still_above(self):
        keeper = self.keeper
        keeper.make("/a", owner=1)
        keeper.tick(2)
        keeper.limit(1, soft=1)
        keeper.limit("/", soft=3)
        keeper.write("/a", 0, [1, 2])
        keeper.settle()
        keeper.tick(5)
        keeper.write("/a", 0, [3])
        keeper.settle()
        up = self.up()
        self.assertEqual((up.now(), up.limits()), (7, [(1, 1, None, 2), ("/", 3, None, None)]))

    def test_a_beginning_of_late_pages_is_none(self):
        keeper = self.keeper
        for path in ("/a", "/b"):
            keeper.make(path, owner=1)
            keeper.write(path, 0, [1, 2])
        keeper.limit(1, soft=3)
        keeper.settle("/a")
        self.assertEqual(keeper.limits(), [(1, 3, None, 0)])
        # Page 0 and 1 of /b were late, and are gone.
        self.assertEqual(self.up().limits(), [(1, 3, None, None)])

    def test_the_grace_goes_by_the_kept_beginning(self):
        keeper = self.keeper
        keeper.make("/a", owner=1)
        keeper.limit(1, soft=1)
        keeper.write("/a", 0, [1, 2])
        keeper.tick(3)
        keeper.settle()
        up = self.up()
        with self.assertRaises(Exception) as caught:
            up.write("/a", 2, [1])
        self.assertEqual(str(caught.exception), "GraceOver 1 0")

    def test_a_coming_up_over_a_whole_disk_writes_nothing(self):
        self.keeper.make("/a")
        self.keeper.write("/a", 0, [1])
        self.keeper.settle()
        writes = self.disk.writes
        Keeper(self.disk)
        self.up()
        self.assertEqual(self.disk.writes, writes)

    def test_a_number_of_no_settled_page_is_never_told(self):
        """A block is set aside where an elder number lay, and is read as 0, behind a coming up too."""
        keeper = self.keeper
        keeper.make("/a")
        keeper.write("/a", 0, [77])
        keeper.settle()
        keeper.drop("/a")
        keeper.settle()
        keeper.make("/b")
        keeper.reserve("/b", 0, 40 - 7)
        keeper.settle()
        self.assertIn(0, [block for page, block, many, kind in keeper.runs_of("/b")])
        self.assertEqual(keeper.read("/b", 0, 33), [0] * 33)
        self.assertEqual(self.up().read("/b", 0, 33), [0] * 33)

    def test_a_block_set_aside_has_no_number(self):
        keeper = self.keeper
        keeper.make("/a")
        keeper.write("/a", 0, [77])
        keeper.settle()
        keeper.write("/a", 0, [78])
        keeper.settle()
        keeper.reserve("/a", 1, 1)
        keeper.settle()
        self.assertEqual(keeper.runs_of("/a"), [(0, 1, 1, 1), (1, 0, 1, 0)])
        self.assertIsNone(self.disk.read(("block", 0)))


class GoneTest(PowerCase):
    def test_gone_ahead_of_all_else(self):
        disk = Disk(10)
        keeper = Keeper(disk)
        keeper.make("/a")
        mark = keeper.mark()
        keeper.settle()
        with self.assertRaises(Stale):
            keeper.back(mark)
        disk.cut()
        self.gone(keeper, mark)
        self.assertEqual(Keeper(disk).files(), ["/a"])
        self.gone(keeper, mark)

    def test_a_cut_ahead_of_the_making_does_no_harm(self):
        disk = Disk(10)
        disk.cut()
        disk.cut()
        keeper = Keeper(disk)
        keeper.make("/a")
        with self.assertRaises(BadPath):
            keeper.make("")
        disk.cut()
        self.gone(keeper, None)

    def test_a_refused_settling_is_not_cut(self):
        disk = Disk(10)
        keeper = Keeper(disk)
        disk.fuse(0)
        with self.assertRaises(BadPath):
            keeper.settle("")
        self.assertEqual(disk.cuts, 0)
        with self.assertRaises(Cut):
            keeper.settle()
        self.assertEqual(disk.cuts, 1)


class RowsTest(PowerCase):
    def test_rows_of_an_empty_store(self):
        disk = Disk(10)
        Keeper(disk).settle()
        self.assertEqual(disk.read(("charge", "/")), (0,))
        self.assertEqual([a for a in disk.addresses() if a[0] in ("charge", "holders", "block")], [("charge", "/")])

    def test_rows_of_a_small_store(self):
        disk = Disk(30)
        keeper = Keeper(disk)
        keeper.fold("/d")
        keeper.fold("/e")
        keeper.make("/d/a", owner=2)
        keeper.make("/b", owner=4)
        for page in range(0, 12, 2):
            keeper.write("/d/a", page, [page])
        keeper.reserve("/d/a", 11, 1)
        keeper.write("/b", 5, [55])
        keeper.settle("/d/a")
        keeper.twin("/d/a", "/t")
        keeper.settle("/d/a")
        charges = {a[1]: disk.read(a) for a in disk.addresses() if a[0] == "charge"}
        # /d/a has seven pages and may need a sheet, /t six; page 5 of /b is late.
        self.assertEqual(charges, {2: (8 + 7,), 4: (0,), "/": (8 + 7,), "/d": (8,), "/e": (0,)})
        holders = {a[1]: disk.read(a) for a in disk.addresses() if a[0] == "holders"}
        sheets = keeper.sheets_of("/d/a") + keeper.sheets_of("/t")
        self.assertEqual(len(sheets), 2)
        self.assertEqual(holders, {**{block: (2,) for block in range(6)}, 6: (1,), **{one: (1,) for one in sheets}})
        blocks = {a[1]: disk.read(a) for a in disk.addresses() if a[0] == "block"}
        rows = tuple(keeper.runs_of("/d/a")[3:])
        self.assertEqual(blocks[keeper.sheets_of("/d/a")[0]], rows)
        self.assertEqual([blocks[at] for at in range(6)], [0, 2, 4, 6, 8, 10])
        self.assertEqual(keeper.charge_of(4), 1)


if __name__ == "__main__":
    unittest.main()
