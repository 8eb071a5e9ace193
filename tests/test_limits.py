"""Promise 19, as far as it speaks of one owner or folder, and the interface's section latestow/limits.py."""

import random
import unittest

from latestow import limits
from latestow.errors import BadMany, GraceOver, OverLimit, StowError
from latestow.limits import Limits

FAR = 10 ** 30


class LimitsCase(unittest.TestCase):
    def over_limit(self, some, whose, was, will, most):
        before = (some.shown(), some.now())
        with self.assertRaises(OverLimit) as caught:
            some.asks(whose, was, will)
        error = caught.exception
        self.assertEqual((error.whose, error.asked, error.most), (whose, will, most))
        self.assertEqual(str(error), f"OverLimit {whose} {will} {most}")
        self.assertIsInstance(error, StowError)
        self.assertEqual((some.shown(), some.now()), before)

    def grace_over(self, some, whose, was, will, began):
        before = (some.shown(), some.now())
        with self.assertRaises(GraceOver) as caught:
            some.asks(whose, was, will)
        error = caught.exception
        self.assertEqual((error.whose, error.began), (whose, began))
        self.assertEqual(str(error), f"GraceOver {whose} {began}")
        self.assertIsInstance(error, StowError)
        self.assertEqual((some.shown(), some.now()), before)

    def let(self, some, whose, was, will):
        before = (some.shown(), some.now())
        self.assertIsNone(some.asks(whose, was, will))
        self.assertEqual((some.shown(), some.now()), before)


class RuleTest(LimitsCase):
    def test_soft_hard_both_neither(self):
        some = Limits()
        some.rule(1, 0, soft=3)
        some.rule(2, 0, hard=4)
        some.rule(3, 0, soft=5, hard=6)
        some.rule(4, 0)
        some.rule("/a", 0, soft=0, hard=0)
        some.rule("/b", 0, hard=1, soft=2)
        self.assertEqual(some.shown(), [
            (1, 3, None, None), (2, None, 4, None), (3, 5, 6, None), ("/a", 0, 0, None), ("/b", 2, 1, None),
        ])

    def test_both_are_set_anew(self):
        some = Limits()
        some.rule(1, 0, soft=3, hard=9)
        some.rule(1, 0, soft=4)
        self.assertEqual(some.shown(), [(1, 4, None, None)])
        self.let(some, 1, 0, FAR)
        some.rule(1, 0, hard=5)
        self.assertEqual(some.shown(), [(1, None, 5, None)])

    def test_neither_takes_the_limit_away(self):
        some = Limits()
        some.rule(1, 7, soft=3, hard=9)
        some.rule("/", 0, hard=0)
        some.rule(1, 7)
        self.assertEqual((some.shown(), some.since(1)), ([("/", None, 0, None)], None))
        self.let(some, 1, 7, FAR)
        some.rule("/", 0, soft=None, hard=None)
        self.assertEqual(some.shown(), [])

    def test_neither_where_there_is_none(self):
        some = Limits()
        some.rule(1, 7)
        self.assertEqual((some.shown(), some.since(1)), ([], None))

    def test_a_limit_taken_away_and_set_again_begins_anew(self):
        some = Limits()
        some.rule(1, 7, soft=3)
        some.tick(2)
        some.rule(1, 7)
        some.rule(1, 7, soft=3)
        self.assertEqual(some.since(1), 2)

    def test_a_beginning_by_a_limit_set(self):
        some = Limits()
        some.tick(4)
        for whose, charge, soft, told in ((1, 3, 3, None), (2, 4, 3, 4), (3, 1, 0, 4), (4, 0, 0, None), ("/", FAR, 9, 4)):
            some.rule(whose, charge, soft=soft)
            self.assertEqual(some.since(whose), told)

    def test_a_beginning_stays_where_it_is_still_above(self):
        some = Limits()
        some.rule("/a", 7, soft=3)
        some.tick()
        some.rule("/a", 7, soft=6, hard=20)
        some.tick()
        some.rule("/a", 8, soft=0)
        self.assertEqual(some.since("/a"), 0)

    def test_a_beginning_ends_by_a_rule(self):
        some = Limits()
        for how in ({"soft": 7}, {"soft": 8}, {"hard": 3}, {}):
            some.rule(1, 7, soft=3)
            self.assertIsNotNone(some.since(1))
            some.tick()
            some.rule(1, 7, **how)
            self.assertIsNone(some.since(1))
            some.tick()
            some.rule(1, 7, soft=3)
            self.assertEqual(some.since(1), some.now())
            some.rule(1, 7)

    def test_a_rule_goes_by_the_charge_that_it_is_told(self):
        some = Limits()
        some.rule(1, 7, soft=3)
        some.tick()
        some.rule(1, 2, soft=3)
        self.assertIsNone(some.since(1))
        some.rule(1, 9, soft=3)
        self.assertEqual(some.since(1), 1)

    def test_a_hard_limit_alone_has_no_beginning(self):
        some = Limits()
        some.rule(1, 7, hard=3)
        self.assertIsNone(some.since(1))
        some.note(1, 9)
        self.assertIsNone(some.since(1))

    def test_soft_and_hard_are_handed_in_by_name_alone(self):
        with self.assertRaises(TypeError):
            Limits().rule(1, 0, 2, 3)
        with self.assertRaises(TypeError):
            Limits(3)


class NoteTest(LimitsCase):
    def test_begins_stays_and_ends(self):
        some = Limits()
        some.rule(1, 0, soft=3)
        told = []
        for charge in (3, 4, 9, 4, 3, 3, 4, 0, FAR, FAR):
            some.tick()
            some.note(1, charge)
            told.append(some.since(1))
        self.assertEqual(told, [None, 2, 2, 2, None, None, 7, None, 9, 9])

    def test_at_the_time_nought(self):
        some = Limits()
        some.rule("/a", 0, soft=0)
        some.note("/a", 1)
        self.assertEqual(some.since("/a"), 0)
        some.tick()
        some.note("/a", 2)
        self.assertEqual(some.since("/a"), 0)

    def test_without_a_limit(self):
        some = Limits()
        some.note(1, 50)
        some.note("/a", 50)
        self.assertEqual((some.since(1), some.since("/a"), some.shown()), (None, None, []))

    def test_each_has_its_own_beginning(self):
        some = Limits()
        for whose in (1, 2, "/", "/a"):
            some.rule(whose, 0, soft=3)
            some.tick()
            some.note(whose, 4)
        some.note(2, 3)
        self.assertEqual([some.since(whose) for whose in (1, 2, "/", "/a", 3, "/b")], [1, None, 3, 4, None, None])

    def test_note_tells_nothing(self):
        some = Limits()
        self.assertIsNone(some.rule(1, 0, soft=3))
        self.assertIsNone(some.note(1, 4))
        self.assertIsNone(some.tick())


class AsksTest(LimitsCase):
    def test_without_a_limit(self):
        some = Limits()
        self.let(some, 1, 0, FAR)
        self.let(some, "/", 0, FAR)

    def test_a_hard_limit(self):
        some = Limits()
        some.rule(1, 0, hard=10)
        some.rule("/a", 0, hard=10)
        for whose in (1, "/a"):
            self.let(some, whose, 0, 9)
            self.let(some, whose, 0, 10)
            self.over_limit(some, whose, 0, 11, 10)
            self.over_limit(some, whose, 10, 11, 10)
            self.over_limit(some, whose, 0, FAR, 10)

    def test_limits_of_nought(self):
        some = Limits()
        some.rule(1, 0, hard=0)
        some.rule(2, 1, soft=0)
        self.let(some, 1, 0, 0)
        self.over_limit(some, 1, 0, 1, 0)
        some.tick(5)
        self.grace_over(some, 2, 1, 2, 0)

    def test_a_charge_that_does_not_grow(self):
        some = Limits(grace=0)
        some.rule(1, 20, soft=3, hard=10)
        for will in (20, 19, 11, 4, 0):
            self.let(some, 1, 20, will)
        self.over_limit(some, 1, 20, 21, 10)
        some.rule(2, 20, soft=3)
        for will in (20, 19, 4, 3, 0):
            self.let(some, 2, 20, will)
        self.grace_over(some, 2, 20, 21, 0)

    def test_within_the_grace_at_its_end_and_beyond_it(self):
        for grace in (1, 2, 5, 9):
            some = Limits(grace=grace)
            some.tick(3)
            some.rule("/a", 4, soft=3)
            for step in range(grace):
                self.let(some, "/a", 4, 5)
                some.tick()
            self.assertEqual(some.now(), 3 + grace)
            self.grace_over(some, "/a", 4, 5, 3)
            some.tick(FAR)
            self.grace_over(some, "/a", 4, 5, 3)

    def test_the_grace_is_five_where_it_is_left_out(self):
        self.assertEqual(limits.GRACE, 5)
        some = Limits()
        some.rule(1, 4, soft=3)
        some.tick(4)
        self.let(some, 1, 4, 5)
        some.tick()
        self.grace_over(some, 1, 4, 5, 0)

    def test_a_grace_of_nought(self):
        some = Limits(grace=0)
        some.rule(1, 3, soft=3)
        self.let(some, 1, 3, 9)
        some.note(1, 4)
        self.grace_over(some, 1, 4, 5, 0)
        some.note(1, 3)
        self.let(some, 1, 3, 9)

    def test_below_and_at_the_soft_limit(self):
        some = Limits()
        some.rule(1, 0, soft=3)
        some.tick(50)
        for will in (1, 2, 3, 4, FAR):
            self.let(some, 1, 0, will)

    def test_what_would_not_be_above_is_let_whatever_began(self):
        some = Limits(grace=0)
        some.rule(1, 9, soft=3)
        self.let(some, 1, 2, 3)
        self.let(some, 1, 0, 1)

    def test_a_charge_that_came_below_begins_anew(self):
        some = Limits()
        some.rule(1, 4, soft=3)
        some.tick(5)
        self.grace_over(some, 1, 4, 5, 0)
        some.note(1, 3)
        self.let(some, 1, 3, 4)
        some.note(1, 4)
        some.tick(4)
        self.let(some, 1, 4, 5)
        some.tick()
        self.grace_over(some, 1, 4, 5, 5)

    def test_over_limit_ahead_of_grace_over(self):
        some = Limits(grace=0)
        some.rule(1, 4, soft=3, hard=10)
        self.over_limit(some, 1, 4, 11, 10)
        self.grace_over(some, 1, 4, 10, 0)
        some.rule(1, 4, soft=3, hard=2)
        self.over_limit(some, 1, 4, 5, 2)

    def test_a_hard_limit_below_the_soft_one(self):
        some = Limits()
        some.rule(1, 0, soft=9, hard=5)
        self.let(some, 1, 0, 5)
        self.over_limit(some, 1, 0, 6, 5)

    def test_a_lowered_limit_takes_nothing_away(self):
        some = Limits()
        some.rule(1, 8, soft=9, hard=10)
        some.rule(1, 8, soft=1, hard=2)
        self.let(some, 1, 8, 8)
        self.let(some, 1, 8, 3)
        self.over_limit(some, 1, 8, 9, 2)

    def test_only_whose_limit_it_is(self):
        some = Limits(grace=0)
        some.rule(1, 9, soft=0, hard=9)
        some.rule("/a", 9, soft=0, hard=9)
        for whose in (0, 2, "/", "/b", "1", "/a/b"):
            self.let(some, whose, 9, 10)

    def test_asks_begins_nothing(self):
        some = Limits()
        some.rule(1, 3, soft=3)
        self.let(some, 1, 3, 4)
        self.assertIsNone(some.since(1))
        some.tick(9)
        self.let(some, 1, 3, 4)

    def test_long_stories(self):
        chance = random.Random(19)
        refused = 0
        for story in range(300):
            grace = chance.randrange(4)
            some, now, charge, soft, hard, began = Limits(grace=grace), 0, 0, None, None, None
            for step in range(40):
                deed = chance.choice("aaarnt")
                if deed == "r":
                    soft, hard = chance.choice((None, 2, 4, 6)), chance.choice((None, 5, 8))
                    some.rule(1, charge, soft=soft, hard=hard)
                elif deed == "n":
                    charge = chance.randrange(10)
                    some.note(1, charge)
                elif deed == "t":
                    many = chance.randrange(3)
                    some.tick(many)
                    now += many
                else:
                    will = chance.randrange(10)
                    if will > charge and hard is not None and will > hard:
                        self.over_limit(some, 1, charge, will, hard)
                        refused += 1
                    elif will > charge and began is not None and will > soft and now - began >= grace:
                        self.grace_over(some, 1, charge, will, began)
                        refused += 1
                    else:
                        self.let(some, 1, charge, will)
                if soft is None or charge <= soft:
                    began = None
                elif began is None:
                    began = now
                rows = [] if soft is None and hard is None else [(1, soft, hard, began)]
                self.assertEqual((some.since(1), some.now(), some.shown()), (began, now, rows))
        self.assertGreater(refused, 100)


class TimeTest(LimitsCase):
    def test_the_time_is_nought_at_first(self):
        self.assertEqual(Limits().now(), 0)
        self.assertEqual(Limits(grace=9).now(), 0)

    def test_tick(self):
        some = Limits()
        some.tick()
        self.assertEqual(some.now(), 1)
        some.tick(0)
        self.assertEqual(some.now(), 1)
        some.tick(7)
        self.assertEqual(some.now(), 8)
        some.tick(many=2)
        self.assertEqual(some.now(), 10)
        some.tick(FAR)
        self.assertEqual(some.now(), FAR + 10)

    def test_below_nought(self):
        some = Limits()
        some.tick(3)
        some.rule(1, 4, soft=3)
        for many in (-1, -3, -FAR):
            with self.assertRaises(BadMany) as caught:
                some.tick(many)
            self.assertEqual((caught.exception.many, str(caught.exception)), (many, f"BadMany {many}"))
            self.assertEqual((some.now(), some.shown()), (3, [(1, 3, None, 3)]))


class ShownTest(LimitsCase):
    def test_owners_by_number_then_folders_by_path(self):
        some = Limits()
        for whose in ("/b", 10, "/a/b", 2, "/", 0, "/a", "/a1", 9):
            some.rule(whose, 1, soft=1, hard=2)
        self.assertEqual([row[0] for row in some.shown()], [0, 2, 9, 10, "/", "/a", "/a/b", "/a1", "/b"])

    def test_rows(self):
        some = Limits()
        some.tick(2)
        some.rule(1, 5, soft=4, hard=6)
        some.rule("/", 5, hard=6)
        self.assertEqual(some.shown(), [(1, 4, 6, 2), ("/", None, 6, None)])
        self.assertIs(type(some.shown()), list)
        self.assertEqual([type(row) for row in some.shown()], [tuple, tuple])

    def test_none(self):
        self.assertEqual(Limits().shown(), [])

    def test_a_new_list_each_time(self):
        some = Limits()
        some.rule(1, 5, soft=4)
        told = some.shown()
        told.append((2, 1, 1, None))
        told[0] = None
        self.assertEqual(some.shown(), [(1, 4, None, 0)])
        empty = Limits()
        empty.shown().append(1)
        self.assertEqual(empty.shown(), [])

    def test_two_beside_each_other_know_nothing_of_one_another(self):
        one, other = Limits(grace=0), Limits(grace=3)
        one.rule(1, 5, soft=4)
        one.tick(2)
        other.rule("/a", 5, hard=4)
        other.note(1, 9)
        self.assertEqual((one.now(), other.now()), (2, 0))
        self.assertEqual((one.shown(), other.shown()), ([(1, 4, None, 0)], [("/a", None, 4, None)]))
        self.grace_over(one, 1, 5, 6, 0)
        self.let(other, 1, 5, 6)
        other.rule(1, 5, soft=4)
        self.let(other, 1, 5, 6)
        self.let(one, "/a", 5, 6)


class CopyTest(LimitsCase):
    def test_a_copy_and_its_original_know_nothing_of_one_another(self):
        some = Limits(grace=2)
        some.tick(3)
        some.rule(1, 7, soft=5, hard=9)
        other = some.copied()
        self.assertEqual((other.shown(), other.now(), other.grace), ([(1, 5, 9, 3)], 3, 2))
        other.tick(2)
        other.rule(1, 7)
        other.rule("/", 1, soft=0)
        self.assertEqual((some.shown(), some.now()), ([(1, 5, 9, 3)], 3))

    def test_brought_up(self):
        some = Limits(grace=2)
        rows = [(1, 5, 9, 3), (2, 5, None, None), ("/", 5, None, 1), ("/d", None, 4, None)]
        some.bring_up(6, rows)
        self.assertEqual((some.shown(), some.now()), (rows, 6))
        for whose in (1, 2, "/d"):
            some.note(whose, 7)
        some.note("/", 5)
        self.assertEqual(some.shown(), [(1, 5, 9, 3), (2, 5, None, 6), ("/", 5, None, None), ("/d", None, 4, None)])
        self.assertEqual((some.has_bar(1), some.has_bar(3)), (True, False))


if __name__ == "__main__":
    unittest.main()
