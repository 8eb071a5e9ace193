"""Promises 1, 4 and 5, and the interface's section latestow/disk.py."""

import itertools
import random
import unittest

from latestow import disk
from latestow.disk import Disk
from latestow.errors import BadMany, BadSize, Cut, StowError

FAR = 10 ** 30
A, B, C = ("a",), ("b", 2), ("c", "d", 3)


def rows_of(some):
    return {address: some.read(address) for address in some.addresses()}


def survived(ahead, writings, through):
    """Promise 4, word for word: the rows ahead, and then those writings that came through, in their order."""
    rows = dict(ahead)
    for k, (address, row) in enumerate(writings):
        if (through >> k) % 2 == 1:
            rows[address] = row
    return {address: row for address, row in rows.items() if row is not None}


class SizeTest(unittest.TestCase):
    def test_the_two_bounds(self):
        self.assertEqual((disk.LEAST, disk.MOST), (4, 200))

    def test_each_size_that_is_let(self):
        for size in range(4, 201):
            self.assertEqual(Disk(size).size, size)

    def test_sizes_that_are_refused(self):
        for size in (3, 201, 2, 1, 0, -1, -4, -200, -FAR, FAR):
            with self.subTest(size):
                with self.assertRaises(BadSize) as caught:
                    Disk(size)
                self.assertEqual(caught.exception.size, size)
                self.assertEqual(str(caught.exception), f"BadSize {size}")
                self.assertIsInstance(caught.exception, StowError)

    def test_a_new_disk(self):
        new = Disk(4)
        self.assertEqual((new.size, new.cuts, new.writes, new.addresses()), (4, 0, 0, []))
        self.assertIsNone(new.read(A))


class RowsTest(unittest.TestCase):
    def test_rows_are_read_at_once_ahead_of_a_barrier(self):
        some = Disk(4)
        for address, row in ((A, 7), (B, (1, "x", (2, 3))), (C, ()), (("n", -1), 0), (("m",), -FAR), ((), 1)):
            some.put(address, row)
            self.assertEqual(some.read(address), row)
            self.assertIs(type(some.read(address)), type(row))

    def test_a_row_put_anew(self):
        some = Disk(4)
        some.put(A, 1)
        some.put(A, (2,))
        self.assertEqual(some.read(A), (2,))
        some.barrier()
        some.put(A, 3)
        self.assertEqual(some.read(A), 3)
        self.assertEqual(some.addresses(), [A])

    def test_none_takes_a_row_away(self):
        some = Disk(4)
        some.put(A, 1)
        some.put(B, 2)
        some.put(A, None)
        self.assertIsNone(some.read(A))
        self.assertEqual(some.addresses(), [B])
        some.barrier()
        some.put(B, None)
        self.assertEqual(some.addresses(), [])

    def test_none_where_there_is_no_row(self):
        some = Disk(4)
        some.put(A, None)
        self.assertIsNone(some.read(A))
        self.assertEqual(some.addresses(), [])
        some.barrier()
        some.cut()
        self.assertEqual(some.addresses(), [])

    def test_addresses_never_written(self):
        some = Disk(4)
        some.put(("a", 1), 5)
        for address in (A, ("a", 2), ("a", "1"), (1, "a"), ("a", 1, 0), ()):
            self.assertIsNone(some.read(address))
        self.assertEqual(some.addresses(), [("a", 1)])

    def test_addresses_are_told_once_each(self):
        some = Disk(4)
        for address in (C, A, B, A, C):
            some.put(address, 1)
        self.assertIs(type(some.addresses()), list)
        self.assertEqual(sorted(some.addresses(), key=str), sorted([A, B, C], key=str))

    def test_a_new_list_each_time(self):
        some = Disk(4)
        some.put(A, 1)
        told = some.addresses()
        told.clear()
        told.append(B)
        self.assertEqual(some.addresses(), [A])
        some.put(B, 1)
        self.assertEqual(told, [B])
        self.assertIsNot(some.addresses(), some.addresses())

    def test_a_list_told_ahead_of_a_cut_stays(self):
        some = Disk(4)
        some.put(A, 1)
        told = some.addresses()
        some.cut()
        self.assertEqual(told, [A])

    def test_writes_counts_each_writing(self):
        some = Disk(4)
        for many, row in enumerate((1, None, None, (), 1, 1), start=1):
            some.put(A, row)
            self.assertEqual(some.writes, many)
        some.barrier()
        some.cut()
        some.read(A)
        self.assertEqual(some.writes, 6)
        some.put(A, None)
        self.assertEqual(some.writes, 7)

    def test_put_and_barrier_tell_nothing(self):
        some = Disk(4)
        self.assertIsNone(some.put(A, 1))
        self.assertIsNone(some.barrier())
        self.assertIsNone(some.cut())
        self.assertIsNone(some.fuse(1))

    def test_two_disks_know_nothing_of_one_another(self):
        one, other = Disk(4), Disk(5)
        one.put(A, 1)
        one.barrier()
        one.fuse(0)
        other.put(A, 2)
        other.put(B, 3)
        other.barrier()
        one.cut()
        self.assertEqual((rows_of(one), rows_of(other)), ({A: 1}, {A: 2, B: 3}))
        self.assertEqual((one.cuts, other.cuts, one.writes, other.writes), (1, 0, 1, 2))
        self.assertEqual((one.size, other.size), (4, 5))


class CutTest(unittest.TestCase):
    def test_through_is_nought_where_it_is_left_out(self):
        some = Disk(4)
        some.put(A, 1)
        some.cut()
        self.assertEqual((rows_of(some), some.cuts), ({}, 1))
        self.assertIsNone(some.read(A))

    def test_what_lay_ahead_of_the_last_barrier_stays(self):
        for through in (0, 1, 2, 3, FAR):
            some = Disk(4)
            some.put(A, 1)
            some.barrier()
            some.put(B, 2)
            some.barrier()
            some.cut(through=through)
            self.assertEqual(rows_of(some), {A: 1, B: 2})

    def test_what_lay_ahead_comes_back(self):
        some = Disk(4)
        some.put(A, 1)
        some.put(B, 2)
        some.barrier()
        some.put(A, 9)
        some.put(B, None)
        some.cut(through=0)
        self.assertEqual(rows_of(some), {A: 1, B: 2})

    def test_single_bits(self):
        for k, address in enumerate((A, B, C)):
            some = Disk(4)
            for number, other in enumerate((A, B, C)):
                some.put(other, number)
            some.cut(through=1 << k)
            self.assertEqual(rows_of(some), {address: k})

    def test_bits_beyond_the_last_writing_mean_nothing(self):
        for through in (4, 8 + 4, FAR << 2, 1 << 5000):
            some = Disk(4)
            some.put(A, 1)
            some.put(B, 2)
            some.cut(through=through)
            self.assertEqual(rows_of(some), {})
        some = Disk(4)
        some.put(A, 1)
        some.put(B, 2)
        some.cut(through=(FAR << 2) + 2)
        self.assertEqual(rows_of(some), {B: 2})

    def test_every_through_of_some_writings(self):
        writings = [(A, 1), (B, 2), (A, None), (A, (3,)), (B, None), (B, 4)]
        for ahead in ({}, {A: 10, B: 20, C: 30}):
            for through in range(1 << len(writings)):
                some = Disk(4)
                for address, row in ahead.items():
                    some.put(address, row)
                some.barrier()
                for address, row in writings:
                    some.put(address, row)
                some.cut(through=through)
                self.assertEqual(rows_of(some), survived(ahead, writings, through), (ahead, through))

    def test_several_at_one_address_count_in_their_order(self):
        for through, row in ((0, 5), (1, 1), (2, 2), (3, 2), (4, 3), (5, 3), (6, 3), (7, 3)):
            some = Disk(4)
            some.put(A, 5)
            some.barrier()
            for number in (1, 2, 3):
                some.put(A, number)
            some.cut(through=through)
            self.assertEqual(some.read(A), row)

    def test_a_none_that_came_through_or_did_not(self):
        for through, rows in ((0, {A: 1}), (1, {})):
            some = Disk(4)
            some.put(A, 1)
            some.barrier()
            some.put(A, None)
            some.cut(through=through)
            self.assertEqual(rows_of(some), rows)

    def test_a_none_at_no_row_has_its_bit_too(self):
        some = Disk(4)
        some.put(A, None)
        some.put(B, 2)
        some.cut(through=2)
        self.assertEqual(rows_of(some), {B: 2})

    def test_a_second_cut_right_behind_the_first(self):
        for second in (0, 1, 3, FAR):
            some = Disk(4)
            some.put(A, 1)
            some.put(B, 2)
            some.cut(through=1)
            some.cut(through=second)
            self.assertEqual((rows_of(some), some.cuts), ({A: 1}, 2))

    def test_the_disk_is_used_behind_a_cut_as_before(self):
        some = Disk(4)
        some.put(A, 1)
        some.put(B, 2)
        some.cut(through=2)
        some.put(A, 3)
        self.assertEqual(rows_of(some), {A: 3, B: 2})
        some.put(C, 4)
        some.cut(through=2)
        self.assertEqual(rows_of(some), {B: 2, C: 4})
        some.put(A, 5)
        some.barrier()
        some.put(B, None)
        some.cut(through=0)
        self.assertEqual(rows_of(some), {A: 5, B: 2, C: 4})
        self.assertEqual((some.cuts, some.writes, some.size), (3, 6, 4))

    def test_the_count_begins_anew_behind_a_barrier(self):
        some = Disk(4)
        for number in range(9):
            some.put(("n", number), number)
        some.barrier()
        some.put(A, 1)
        some.put(B, 2)
        some.cut(through=1)
        self.assertEqual(rows_of(some), {**{("n", number): number for number in range(9)}, A: 1})

    def test_cuts_are_counted(self):
        some = Disk(4)
        for many in range(1, 6):
            some.cut(through=many)
            self.assertEqual(some.cuts, many)

    def test_long_stories(self):
        chance = random.Random(4)
        for story in range(200):
            some, ahead, writings, cuts = Disk(4), {}, [], 0
            for step in range(40):
                deed = chance.choice("pppppbc")
                if deed == "p":
                    writings.append((chance.choice((A, B, C)), chance.choice((None, 1, (2,), ()))))
                    some.put(*writings[-1])
                elif deed == "b":
                    some.barrier()
                    ahead, writings = survived(ahead, writings, (1 << len(writings)) - 1), []
                else:
                    through = chance.randrange(1 << 12)
                    some.cut(through=through)
                    ahead, writings, cuts = survived(ahead, writings, through), [], cuts + 1
                self.assertEqual(rows_of(some), survived(ahead, writings, (1 << len(writings)) - 1))
                self.assertEqual(some.cuts, cuts)


class FuseTest(unittest.TestCase):
    def burnt(self, some, deed):
        cuts, writes = some.cuts, some.writes
        with self.assertRaises(Cut) as caught:
            deed()
        self.assertEqual(str(caught.exception), "Cut")
        self.assertIsInstance(caught.exception, RuntimeError)
        self.assertNotIsInstance(caught.exception, StowError)
        self.assertEqual((some.cuts, some.writes), (cuts + 1, writes))

    def test_of_nought_by_a_writing(self):
        some = Disk(4)
        some.put(A, 1)
        some.barrier()
        some.put(B, 2)
        some.fuse(0)
        self.burnt(some, lambda: some.put(C, 3))
        self.assertEqual(rows_of(some), {A: 1})

    def test_of_nought_by_a_barrier(self):
        some = Disk(4)
        some.put(A, 1)
        some.fuse(0)
        self.burnt(some, some.barrier)
        self.assertEqual(rows_of(some), {})

    def test_of_nought_by_a_none(self):
        some = Disk(4)
        some.put(A, 1)
        some.barrier()
        some.fuse(0, through=FAR)
        self.burnt(some, lambda: some.put(A, None))
        self.assertEqual(rows_of(some), {A: 1})

    def test_of_some(self):
        for many in range(1, 7):
            some = Disk(4)
            some.fuse(many, through=(1 << 60) - 1)
            for number in range(many):
                some.put(("n", number), number)
            self.assertEqual((some.writes, some.cuts), (many, 0))
            self.burnt(some, lambda: some.put(A, 1))
            self.assertEqual(rows_of(some), {("n", number): number for number in range(many)})

    def test_of_some_by_a_barrier(self):
        some = Disk(4)
        some.fuse(2, through=2)
        some.put(A, 1)
        some.put(B, 2)
        self.burnt(some, some.barrier)
        self.assertEqual(rows_of(some), {B: 2})

    def test_barriers_and_questions_use_nothing_of_it(self):
        some = Disk(4)
        some.fuse(2)
        some.barrier()
        some.barrier()
        some.put(A, 1)
        some.barrier()
        some.barrier()
        some.read(A)
        some.addresses()
        some.put(B, 2)
        self.assertEqual((rows_of(some), some.cuts), ({A: 1, B: 2}, 0))
        self.burnt(some, some.barrier)
        self.assertEqual(rows_of(some), {A: 1})

    def test_nones_use_it_up(self):
        some = Disk(4)
        some.fuse(1)
        some.put(A, None)
        self.burnt(some, lambda: some.put(A, 1))

    def test_the_rows_behind_it_by_the_told_through(self):
        writings = [(A, 1), (B, 2), (A, None), (C, 3)]
        ahead = {A: 9, C: 8}
        for through, last in itertools.product(range(64), ("put", "barrier")):
            some = Disk(4)
            for address, row in ahead.items():
                some.put(address, row)
            some.barrier()
            some.fuse(len(writings), through=through)
            for address, row in writings:
                some.put(address, row)
            self.burnt(some, some.barrier if last == "barrier" else lambda: some.put(B, 7))
            self.assertEqual(rows_of(some), survived(ahead, writings, through))

    def test_writings_ahead_of_the_fuse_have_their_bits_too(self):
        some = Disk(4)
        some.put(A, 1)
        some.fuse(1, through=2)
        some.put(B, 2)
        self.burnt(some, some.barrier)
        self.assertEqual(rows_of(some), {B: 2})

    def test_no_other_step_raises(self):
        some = Disk(4)
        some.put(A, 1)
        some.fuse(0)
        self.assertEqual(some.read(A), 1)
        self.assertIsNone(some.read(B))
        self.assertEqual(some.addresses(), [A])
        some.fuse(0)
        some.cut()
        self.assertEqual((some.cuts, some.addresses()), (1, []))

    def test_it_burns_once(self):
        some = Disk(4)
        some.fuse(0)
        self.burnt(some, lambda: some.put(A, 1))
        some.put(A, 2)
        some.barrier()
        some.put(B, 3)
        self.assertEqual((rows_of(some), some.cuts, some.writes), ({A: 2, B: 3}, 1, 2))

    def test_a_cut_by_hand_puts_it_out(self):
        for many in (0, 1, 3):
            some = Disk(4)
            some.put(A, 1)
            some.fuse(many, through=1)
            some.cut(through=0)
            self.assertEqual(rows_of(some), {})
            for number in range(6):
                some.put(("n", number), number)
                some.barrier()
            self.assertEqual((some.cuts, some.writes, len(some.addresses())), (1, 7, 6))

    def test_none_takes_it_away(self):
        for many in (0, 2):
            some = Disk(4)
            some.fuse(many)
            some.fuse(None)
            for number in range(4):
                some.put(("n", number), number)
            some.barrier()
            self.assertEqual((some.cuts, some.writes), (0, 4))

    def test_none_without_a_fuse(self):
        some = Disk(4)
        some.fuse(None)
        some.fuse(None, through=3)
        some.put(A, 1)
        some.barrier()
        self.assertEqual((rows_of(some), some.cuts), ({A: 1}, 0))

    def test_a_fuse_in_place_of_the_elder(self):
        some = Disk(4)
        some.fuse(0, through=0)
        some.fuse(2, through=3)
        some.put(A, 1)
        some.put(B, 2)
        self.burnt(some, lambda: some.put(C, 3))
        self.assertEqual(rows_of(some), {A: 1, B: 2})
        some.fuse(5, through=7)
        some.put(A, 4)
        some.fuse(0)
        self.burnt(some, some.barrier)
        self.assertEqual(rows_of(some), {A: 1, B: 2})

    def test_the_count_is_from_the_fuse_on(self):
        some = Disk(4)
        for number in range(5):
            some.put(A, number)
        some.fuse(2)
        some.put(A, 6)
        some.put(A, 7)
        self.burnt(some, lambda: some.put(A, 8))

    def test_a_fuse_behind_one_that_burnt(self):
        some = Disk(4)
        some.fuse(0)
        self.burnt(some, some.barrier)
        some.fuse(1, through=1)
        some.put(A, 1)
        self.burnt(some, some.barrier)
        self.assertEqual((rows_of(some), some.cuts), ({A: 1}, 2))

    def refused(self, some, many):
        with self.assertRaises(BadMany) as caught:
            some.fuse(many, through=0)
        self.assertEqual(caught.exception.many, many)
        self.assertEqual(str(caught.exception), f"BadMany {many}")

    def test_below_nought_leaves_what_was_set(self):
        for many in (-1, -7, -FAR):
            some = Disk(4)
            some.fuse(1, through=1)
            self.refused(some, many)
            some.put(A, 1)
            self.burnt(some, lambda: some.put(B, 1))
            self.assertEqual(rows_of(some), {A: 1})

    def test_below_nought_where_none_was_set(self):
        some = Disk(4)
        self.refused(some, -1)
        some.put(A, 1)
        some.barrier()
        self.assertEqual((rows_of(some), some.cuts), ({A: 1}, 0))

    def test_a_great_fuse(self):
        some = Disk(4)
        some.fuse(FAR)
        for number in range(300):
            some.put(A, number)
        some.barrier()
        self.assertEqual((some.read(A), some.cuts), (299, 0))


if __name__ == "__main__":
    unittest.main()
