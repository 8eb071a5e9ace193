"""Promises 25 and 26, with the interface's section latestow/papers.py; promise 1 for a census's lists."""

import random
import unittest

from latestow.papers import Census, adds_up, bears

LET_GO = (("", -1),)
FIELDS = ("size", "held", "put_by", "pledged", "spare")


def some_held():
    """Twelve blocks, five of them held: one by two files, one by a sheet, one let go."""
    return [
        (("/a", 0),), (), (("/a", 1), ("/b", 1)), (), LET_GO, (("/b", -1),), (), (), (("/b", 7),), (), (), (),
    ]


def some(**other):
    told = {"size": 12, "held": some_held(), "put_by": [("/a", 2, 1)], "pledged": [(1, 2)], "spare": 2}
    told.update(other)
    return Census(**told)


class CensusTest(unittest.TestCase):
    def test_fields(self):
        census = Census(12, some_held(), [("/a", 2, 1)], [(1, 2), (4, 0)], 2)
        self.assertEqual(census.size, 12)
        self.assertEqual(census.held, some_held())
        self.assertEqual(census.put_by, [("/a", 2, 1)])
        self.assertEqual(census.pledged, [(1, 2), (4, 0)])
        self.assertEqual(census.spare, 2)
        for name in ("held", "put_by", "pledged"):
            self.assertIsInstance(getattr(census, name), list)

    def test_handed_lists_changed_behind_the_call(self):
        held, put_by, pledged = some_held(), [("/a", 2, 1)], [(1, 2)]
        census = Census(12, held, put_by, pledged, 2)
        held[0] = ()
        held.append(())
        put_by.clear()
        pledged.append((2, 2))
        self.assertEqual(census, some())
        self.assertEqual(str(census), str(some()))

    def test_handed_lists_stay(self):
        held, put_by, pledged = some_held(), [("/a", 2, 1)], [(1, 2)]
        census = Census(12, held, put_by, pledged, 2)
        census.held.clear()
        census.put_by.append(("/b", 1, 1))
        census.pledged[0] = (9, 9)
        self.assertEqual((held, put_by, pledged), (some_held(), [("/a", 2, 1)], [(1, 2)]))

    def test_a_changed_list_changes_that_census_alone(self):
        held, put_by, pledged = some_held(), [("/a", 2, 1)], [(1, 2)]
        for name in ("held", "put_by", "pledged"):
            with self.subTest(name):
                one = Census(12, held, put_by, pledged, 2)
                other = Census(12, held, put_by, pledged, 2)
                getattr(one, name).pop()
                self.assertNotEqual(one, other)
                self.assertEqual(other, some())

    def test_changes_are_seen_in_the_census_itself(self):
        census = some()
        census.held.append(())
        self.assertEqual(len(census), 13)
        self.assertFalse(adds_up(census))

    def test_a_census_of_the_lists_of_another(self):
        one = some()
        other = Census(one.size, one.held, one.put_by, one.pledged, one.spare)
        one.held.clear()
        self.assertEqual(other, some())

    def test_len(self):
        self.assertEqual(len(some()), 12)
        self.assertEqual(len(some(held=[])), 0)
        self.assertEqual(len(some(held=[()] * 3)), 3)

    def test_equal(self):
        self.assertTrue(some() == some())
        self.assertFalse(some() != some())

    def test_differing_in_one_field(self):
        held = some_held()
        held[1] = (("/c", 3),)
        others = {
            "size": 13, "held": held, "put_by": [("/a", 1, 2)], "pledged": [(2, 2)], "spare": 1,
        }
        self.assertEqual(tuple(others), FIELDS)
        for name in FIELDS:
            with self.subTest(name):
                other = some(**{name: others[name]})
                self.assertFalse(some() == other)
                self.assertTrue(some() != other)
                self.assertFalse(other == some())

    def test_the_order_of_a_list_counts(self):
        self.assertNotEqual(
            some(put_by=[("/a", 1, 0), ("/b", 1, 0)]), some(put_by=[("/b", 1, 0), ("/a", 1, 0)]),
        )

    def test_never_equal_to_something_else(self):
        census = some()
        for other in (12, "12", None, [], some_held(), (12, some_held(), [("/a", 2, 1)], [(1, 2)], 2), str(census)):
            with self.subTest(other=other):
                self.assertFalse(census == other)
                self.assertTrue(census != other)

    def test_str(self):
        self.assertEqual(str(some()), "12 = 5 held + 3 put by + 2 pledged + 2 left")

    def test_str_of_nothing(self):
        self.assertEqual(str(Census(4, [()] * 4, [], [], 4)), "4 = 0 held + 0 put by + 0 pledged + 4 left")

    def test_str_of_several(self):
        census = some(put_by=[("", 0, 2), ("/a", 2, 1), ("/b", 4, 0)], pledged=[(1, 2), (2, 0), (3, 5)], spare=-7)
        self.assertEqual(str(census), "12 = 5 held + 9 put by + 7 pledged + -7 left")


class AddsUpTest(unittest.TestCase):
    def test_one_that_adds_up(self):
        self.assertIs(adds_up(some()), True)
        self.assertIs(adds_up(Census(4, [()] * 4, [], [], 4)), True)
        self.assertIs(adds_up(Census(4, [(("/a", 0),)] * 4, [], [], 0)), True)
        self.assertIs(adds_up(Census(4, [()] * 4, [("", 0, 1), ("/a", 1, 0)], [(1, 1), (2, 0), (3, 1)], 0)), True)

    def test_an_entry_fewer_or_more(self):
        self.assertIs(adds_up(some(held=some_held()[:-1])), False)
        self.assertIs(adds_up(some(held=some_held() + [()])), False)

    def test_an_entry_more_where_the_sum_is_right(self):
        self.assertIs(adds_up(Census(4, [()] * 3 + [(("/a", 0),)] + [()], [], [], 3)), False)

    def test_left_below_nought(self):
        self.assertIs(adds_up(some(put_by=[("/a", 2, 4)], spare=-1)), False)
        self.assertIs(adds_up(some(put_by=[("/a", 2, 3)], spare=0)), True)

    def test_a_sum_too_great_or_too_small(self):
        for census in (
            some(spare=1), some(spare=3), some(put_by=[("/a", 1, 1)]), some(put_by=[("/a", 2, 2)]), some(put_by=[]),
            some(pledged=[(1, 1)]), some(pledged=[(1, 2), (2, 1)]), some(pledged=[]), some(size=11), some(size=13),
        ):
            with self.subTest(str(census)):
                self.assertIs(adds_up(census), False)

    def test_blocks_let_go_and_not_yet_free_are_held(self):
        self.assertIs(adds_up(Census(4, [LET_GO, LET_GO, (), ()], [], [], 2)), True)
        self.assertIs(adds_up(Census(4, [LET_GO, LET_GO, (), ()], [], [], 4)), False)

    def test_a_block_of_several_files_counts_once(self):
        held = [(("/a", 0), ("/b", 0), ("/c", 0)), (), (), ()]
        self.assertIs(adds_up(Census(4, held, [], [], 3)), True)
        self.assertIs(adds_up(Census(4, held, [], [], 1)), False)

    def test_the_census_stays(self):
        census = some()
        adds_up(census)
        self.assertEqual(census, some())


FREE = (1, 3, 6, 7, 9, 10, 11)


class BearsTest(unittest.TestCase):
    def setUp(self):
        self.census = some(put_by=[("", 0, 1), ("/a", 2, 1)], pledged=[(1, 1), (2, 0), (5, 1)], spare=1)
        self.plan = [
            ("/a", 2, 1), ("/a", 3, 3), ("", -1, 6), ("/a", -1, 7), ("", 1, 9), ("", 5, 10),
        ]

    def changed(self, at, row):
        plan = list(self.plan)
        plan[at] = row
        return plan

    def test_a_good_plan(self):
        self.assertIs(adds_up(self.census), True)
        self.assertIs(bears(self.census, self.plan), True)
        self.assertIs(bears(self.census, self.plan[::-1]), True)

    def test_in_any_order(self):
        for seed in range(30):
            turned = list(self.plan)
            random.Random(seed).shuffle(turned)
            self.assertIs(bears(self.census, turned), True)

    def test_any_free_blocks_will_do(self):
        for seed in range(30):
            blocks = random.Random(seed).sample(FREE, 6)
            plan = [(path, page, block) for (path, page, elder), block in zip(self.plan, blocks)]
            self.assertIs(bears(self.census, plan), True)

    def test_any_unlike_pages_will_do(self):
        for first, second in ((0, 1), (59, 0), (7, 3), (0, 60)):
            plan = [("/a", first, 1), ("/a", second, 3)] + self.plan[2:]
            self.assertIs(bears(self.census, plan), True)

    def test_a_row_out(self):
        for at in range(len(self.plan)):
            self.assertIs(bears(self.census, self.plan[:at] + self.plan[at + 1:]), False)

    def test_a_row_twice(self):
        for row in self.plan:
            self.assertIs(bears(self.census, self.plan + [row]), False)

    def test_a_row_more(self):
        for row in (
            ("/a", 9, 11), ("/a", -1, 11), ("", -1, 11), ("", 1, 11), ("", 5, 11), ("", 2, 11), ("", 0, 11),
            ("/b", 0, 11), ("/b", -1, 11), ("", 3, 11), ("/a", -2, 11), ("", -2, 11),
        ):
            with self.subTest(row):
                self.assertIs(bears(self.census, self.plan + [row]), False)

    def test_a_block_of_another_row(self):
        for at, (path, page, block) in enumerate(self.plan):
            other = self.plan[at - 1][2]
            self.assertIs(bears(self.census, self.changed(at, (path, page, other))), False)

    def test_a_held_block(self):
        for at, (path, page, block) in enumerate(self.plan):
            for held in (0, 2, 4, 5, 8):
                with self.subTest(at, held=held):
                    self.assertIs(bears(self.census, self.changed(at, (path, page, held))), False)

    def test_a_block_below_nought_or_beyond(self):
        for at, (path, page, block) in enumerate(self.plan):
            # Counted from the end, -1 and -2 would be free.
            for beyond in (-1, -2, -12, -13, 12, 13, 10 ** 20):
                with self.subTest(at, block=beyond):
                    self.assertIs(bears(self.census, self.changed(at, (path, page, beyond))), False)
            self.assertIs(bears(self.census, self.changed(at, (path, page, 11))), True)

    def test_the_first_and_the_last_block(self):
        census = Census(4, [()] * 4, [("/a", 2, 0)], [], 2)
        self.assertIs(bears(census, [("/a", 1, 0), ("/a", 2, 3)]), True)
        self.assertIs(bears(census, [("/a", 1, 0), ("/a", 2, 4)]), False)

    def test_a_page_twice(self):
        self.assertIs(bears(self.census, self.changed(1, ("/a", 2, 3))), False)
        for page in (0, 1, 59):
            plan = [("/a", page, 1), ("/a", page, 3)] + self.plan[2:]
            self.assertIs(bears(self.census, plan), False)

    def test_a_page_below_nought(self):
        self.assertIs(bears(self.census, self.changed(1, ("/a", -2, 3))), False)
        self.assertIs(bears(self.census, self.changed(1, ("/a", -100, 3))), False)
        self.assertIs(bears(self.census, self.changed(3, ("/a", -2, 7))), False)
        self.assertIs(bears(self.census, self.changed(2, ("", -2, 6))), False)

    def test_a_sheet_for_a_page_and_the_other_way_round(self):
        self.assertIs(bears(self.census, self.changed(1, ("/a", -1, 3))), False)
        self.assertIs(bears(self.census, self.changed(3, ("/a", 4, 7))), False)

    def test_another_file(self):
        for at in (0, 1, 3):
            path, page, block = self.plan[at]
            self.assertIs(bears(self.census, self.changed(at, ("/b", page, block))), False)
        self.assertIs(bears(self.census, self.changed(3, ("", -1, 7))), False)
        self.assertIs(bears(self.census, self.changed(2, ("/a", -1, 6))), False)

    def test_the_same_page_of_two_files(self):
        census = some(put_by=[("/a", 1, 0), ("/b", 1, 0)], pledged=[], spare=5)
        self.assertIs(bears(census, [("/a", 3, 1), ("/b", 3, 3)]), True)
        self.assertIs(bears(census, [("/a", 3, 1), ("/a", 4, 3)]), False)

    def test_another_pledge(self):
        self.assertIs(bears(self.census, self.changed(4, ("", 5, 9))), False)
        self.assertIs(bears(self.census, self.changed(4, ("", 3, 9))), False)
        self.assertIs(bears(self.census, self.changed(4, ("", 2, 9))), False)
        self.assertIs(bears(self.census, self.changed(4, ("/a", 1, 9))), False)
        self.assertIs(bears(self.census, self.changed(4, ("", 0, 9))), False)

    def test_a_pledge_with_a_block_too_few_or_too_many(self):
        census = some(put_by=[], pledged=[(1, 2), (2, 3)], spare=2)
        good = [("", 1, 1), ("", 1, 3), ("", 2, 6), ("", 2, 7), ("", 2, 9)]
        self.assertIs(bears(census, good), True)
        self.assertIs(bears(census, good[1:]), False)
        self.assertIs(bears(census, good[:-1]), False)
        self.assertIs(bears(census, good + [("", 1, 10)]), False)
        self.assertIs(bears(census, good[1:] + [("", 2, 10)]), False)

    def test_files_that_are_gone(self):
        census = some(put_by=[("", 0, 3)], pledged=[], spare=4)
        good = [("", -1, 1), ("", -1, 3), ("", -1, 6)]
        self.assertIs(bears(census, good), True)
        self.assertIs(bears(census, good[:2]), False)
        self.assertIs(bears(census, good + [("", -1, 7)]), False)
        self.assertIs(bears(census, good[:2] + [("", 0, 6)]), False)
        self.assertIs(bears(census, good[:2] + [("", 1, 6)]), False)

    def test_an_empty_plan(self):
        self.assertIs(bears(some(put_by=[], pledged=[], spare=7), []), True)
        self.assertIs(bears(some(put_by=[], pledged=[(1, 0)], spare=7), []), True)
        self.assertIs(bears(self.census, []), False)
        self.assertIs(bears(some(put_by=[], pledged=[], spare=7), [("/a", 0, 1)]), False)

    def test_only_pages_or_only_sheets(self):
        self.assertIs(bears(some(put_by=[("/a", 1, 0)], pledged=[]), [("/a", 0, 1)]), True)
        self.assertIs(bears(some(put_by=[("/a", 0, 1)], pledged=[]), [("/a", -1, 1)]), True)
        self.assertIs(bears(some(put_by=[("/a", 0, 1)], pledged=[]), [("/a", 0, 1)]), False)

    def test_what_is_handed_in_stays(self):
        census, plan = some(), list(self.plan)
        bears(census, plan)
        self.assertEqual((census, plan), (some(), self.plan))


if __name__ == "__main__":
    unittest.main()
