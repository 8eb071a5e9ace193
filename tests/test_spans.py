"""Promises 1 (lists), 2 and 3, and the interface's section latestow/spans.py."""

import itertools
import unittest
from unittest import mock

from latestow.errors import BadMany, Short, StowError
from latestow.spans import Spans, stretches

FAR = 10 ** 12
SMALL = 9


def small_sets():
    """Every set of blocks below SMALL, as an ascending list."""
    for many in range(SMALL + 1):
        for blocks in itertools.combinations(range(SMALL), many):
            yield list(blocks)


def blocks_in(runs):
    return [block for first, many in runs for block in range(first, first + many)]


def by_the_rule(runs, many):
    """Promise 3, word for word, step by step."""
    runs = list(runs)
    told = []
    rest = many
    while rest:
        holding = [run for run in runs if run[1] >= rest]
        if holding:
            shortest = min(size for first, size in holding)
            run = min(run for run in holding if run[1] == shortest)
            told.append((run[0], rest))
            return told
        longest = max(size for first, size in runs)
        run = min(run for run in runs if run[1] == longest)
        runs.remove(run)
        told.append(run)
        rest -= run[1]
    return told


class StretchesTest(unittest.TestCase):
    def test_no_number(self):
        self.assertEqual(stretches([]), [])

    def test_one_number(self):
        self.assertEqual(stretches([0]), [(0, 1)])
        self.assertEqual(stretches([7]), [(7, 1)])

    def test_numbers_in_any_order(self):
        for blocks in itertools.permutations([2, 3, 4, 7]):
            self.assertEqual(stretches(list(blocks)), [(2, 3), (7, 1)])

    def test_numbers_told_twice(self):
        self.assertEqual(stretches([5, 5, 5]), [(5, 1)])
        self.assertEqual(stretches([3, 2, 3, 4, 2, 7, 7]), [(2, 3), (7, 1)])

    def test_rows_that_follow_one_another(self):
        self.assertEqual(stretches([0, 1, 2, 3]), [(0, 4)])
        self.assertEqual(stretches([0, 1, 3, 4, 6]), [(0, 2), (3, 2), (6, 1)])
        self.assertEqual(stretches([9, 0]), [(0, 1), (9, 1)])

    def test_great_numbers(self):
        self.assertEqual(stretches([FAR, FAR - 1, 0]), [(0, 1), (FAR - 1, 2)])
        self.assertEqual(stretches([FAR]), [(FAR, 1)])

    def test_a_long_row(self):
        self.assertEqual(stretches(list(range(5000, -1, -1))), [(0, 5001)])

    def test_every_small_set(self):
        for blocks in small_sets():
            runs = stretches(blocks)
            self.assertEqual(blocks_in(runs), blocks)
            for (first, many), (after, size) in zip(runs, runs[1:]):
                self.assertLess(first + many, after)

    def test_a_list_of_tuples(self):
        told = stretches([1, 2, 4])
        self.assertIs(type(told), list)
        for pair in told:
            self.assertIs(type(pair), tuple)
            self.assertEqual([type(number) for number in pair], [int, int])

    def test_the_handed_list_is_unchanged(self):
        handed = [4, 2, 2, 9, 3]
        stretches(handed)
        self.assertEqual(handed, [4, 2, 2, 9, 3])

    def test_the_told_list_is_a_new_one(self):
        handed = [1, 2]
        told = stretches(handed)
        told.append((9, 9))
        told[0] = (0, 0)
        self.assertEqual(stretches(handed), [(1, 2)])


class SpansTest(unittest.TestCase):
    def test_made_of_nothing(self):
        for empty in (Spans(), Spans([]), Spans(()), Spans(blocks=[])):
            self.assertEqual(empty.blocks(), [])
            self.assertEqual(empty.runs(), [])
            self.assertEqual(len(empty), 0)

    def test_made_of_a_list_or_a_tuple_in_any_order_with_doubles(self):
        for handed in ([2, 3, 4, 7], (2, 3, 4, 7), [7, 4, 3, 2], (3, 7, 2, 4), [7, 7, 2, 4, 3, 3, 2], (4, 4, 2, 3, 7)):
            spans = Spans(handed)
            self.assertEqual(spans.blocks(), [2, 3, 4, 7])
            self.assertEqual(spans.runs(), [(2, 3), (7, 1)])
            self.assertEqual(len(spans), 4)

    def test_every_small_set(self):
        for blocks in small_sets():
            spans = Spans(list(reversed(blocks)))
            self.assertEqual(spans.blocks(), blocks)
            self.assertEqual(spans.runs(), stretches(blocks))
            self.assertEqual(len(spans), len(blocks))
            self.assertEqual(bool(spans), bool(blocks))

    def test_equal(self):
        self.assertTrue(Spans([1, 2]) == Spans((2, 1, 1)))
        self.assertFalse(Spans([1, 2]) != Spans((2, 1, 1)))
        self.assertTrue(Spans() == Spans([]))
        self.assertFalse(Spans() != Spans([]))

    def test_unequal(self):
        for other in (Spans(), Spans([1]), Spans([1, 3]), Spans([1, 2, 3])):
            self.assertFalse(Spans([1, 2]) == other)
            self.assertTrue(Spans([1, 2]) != other)

    def test_never_equal_to_anything_else(self):
        spans = Spans([1, 2])
        for other in ([1, 2], (1, 2), {1, 2}, {1: True, 2: True}, "1-2", 2, None, True, object(), mock.ANY):
            self.assertFalse(spans == other)
            self.assertTrue(spans != other)
        for other in ([1, 2], (1, 2), {1: True, 2: True}, None):
            self.assertFalse(other == spans)
            self.assertTrue(other != spans)
        for other in ([], (), {}, "", 0, None, False):
            self.assertFalse(Spans() == other)
            self.assertTrue(Spans() != other)

    def test_truth(self):
        self.assertIs(bool(Spans()), False)
        self.assertIs(bool(Spans([0])), True)

    def test_repr(self):
        self.assertEqual(repr(Spans([7, 4, 3, 2, 2])), "Spans([2, 3, 4, 7])")
        self.assertEqual(repr(Spans((0,))), "Spans([0])")
        self.assertEqual(repr(Spans()), "Spans([])")

    def test_str(self):
        self.assertEqual(str(Spans([7, 4, 3, 2, 2])), "2-4 7")
        self.assertEqual(str(Spans([0])), "0")
        self.assertEqual(str(Spans([0, 1])), "0-1")
        self.assertEqual(str(Spans([0, 1, 3, 5, 6])), "0-1 3 5-6")
        self.assertEqual(str(Spans([FAR - 1, FAR])), f"{FAR - 1}-{FAR}")
        self.assertEqual(str(Spans()), "")

    def test_has(self):
        spans = Spans([2, 3, 4, 7])
        for block in (2, 3, 4, 7):
            self.assertIs(spans.has(block), True)
        for block in (0, 1, 5, 6, 8, FAR, -1):
            self.assertIs(spans.has(block), False)
        self.assertIs(Spans().has(0), False)
        self.assertIs(Spans([0]).has(0), True)
        self.assertIs(Spans([FAR]).has(FAR), True)

    def test_a_handed_list_changed_behind_the_call(self):
        handed = [2, 3]
        spans = Spans(handed)
        handed.append(9)
        handed[0] = 5
        self.assertEqual(spans.blocks(), [2, 3])
        self.assertEqual(spans, Spans([2, 3]))

    def test_a_handed_list_stays_as_it_is(self):
        handed = [9, 3, 3, 1]
        Spans(handed).runs()
        self.assertEqual(handed, [9, 3, 3, 1])

    def test_told_lists_changed(self):
        spans = Spans([2, 3, 7])
        for told in (spans.blocks(), spans.runs(), spans.pieces(3)):
            self.assertIs(type(told), list)
            told.append(1)
            told[0] = 0
        self.assertEqual(spans.blocks(), [2, 3, 7])
        self.assertEqual(spans.runs(), [(2, 2), (7, 1)])
        self.assertEqual(spans.pieces(3), [(2, 2), (7, 1)])
        self.assertEqual((len(spans), str(spans)), (3, "2-3 7"))

    def test_runs_are_tuples(self):
        for run in Spans([2, 3, 7]).runs():
            self.assertIs(type(run), tuple)


class MoreAndLessTest(unittest.TestCase):
    def test_more(self):
        spans = Spans([2, 3, 7])
        for handed, blocks in (
            ([], [2, 3, 7]),
            ([2, 7], [2, 3, 7]),
            ([9, 0], [0, 2, 3, 7, 9]),
            ([3, 4, 4, 3], [2, 3, 4, 7]),
            ((4, 5, 6), [2, 3, 4, 5, 6, 7]),
        ):
            told = spans.more(handed)
            self.assertIs(type(told), Spans)
            self.assertEqual(told.blocks(), blocks)
            self.assertEqual(told, Spans(blocks))
            self.assertEqual(spans.blocks(), [2, 3, 7])
        self.assertEqual(Spans().more([1]).blocks(), [1])
        self.assertEqual(Spans().more([]), Spans())

    def test_less(self):
        spans = Spans([2, 3, 7])
        for handed, blocks in (
            ([], [2, 3, 7]),
            ([2, 7], [3]),
            ([9, 0], [2, 3, 7]),
            ([3, 4, 4, 3], [2, 7]),
            ((7, 3, 2), []),
        ):
            told = spans.less(handed)
            self.assertIs(type(told), Spans)
            self.assertEqual(told.blocks(), blocks)
            self.assertEqual(told, Spans(blocks))
            self.assertEqual(spans.blocks(), [2, 3, 7])
        self.assertEqual(Spans().less([1]), Spans())
        self.assertEqual(Spans().less([]), Spans())

    def test_a_new_one_each_time(self):
        spans = Spans([1])
        self.assertIsNot(spans.more([]), spans)
        self.assertIsNot(spans.less([]), spans)

    def test_handed_lists_stay_and_are_not_looked_at_again(self):
        spans = Spans([2, 3, 7])
        handed = [7, 4, 4]
        more = spans.more(handed)
        less = spans.less(handed)
        self.assertEqual(handed, [7, 4, 4])
        handed.extend([2, 99])
        self.assertEqual(more.blocks(), [2, 3, 4, 7])
        self.assertEqual(less.blocks(), [2, 3])

    def test_runs_join_and_part(self):
        self.assertEqual(Spans([1, 3]).more([2]).runs(), [(1, 3)])
        self.assertEqual(Spans([1, 2, 3]).less([2]).runs(), [(1, 1), (3, 1)])


class PiecesTest(unittest.TestCase):
    # stretches (0, 2), (4, 3), (10, 3), (20, 5), (30, 2)
    SOME = [0, 1, 4, 5, 6, 10, 11, 12, 20, 21, 22, 23, 24, 30, 31]

    def test_nought(self):
        self.assertEqual(Spans(self.SOME).pieces(0), [])
        self.assertEqual(Spans().pieces(0), [])

    def test_exactly_the_size_of_a_stretch(self):
        self.assertEqual(Spans(self.SOME).pieces(5), [(20, 5)])
        self.assertEqual(Spans([3, 4, 8]).pieces(2), [(3, 2)])
        self.assertEqual(Spans([3, 4, 8]).pieces(1), [(8, 1)])

    def test_the_shortest_that_holds(self):
        self.assertEqual(Spans(self.SOME).pieces(4), [(20, 4)])
        self.assertEqual(Spans([0, 1, 2, 3, 4, 7, 8, 9]).pieces(2), [(7, 2)])

    def test_of_equal_short_ones_the_least_first_block(self):
        self.assertEqual(Spans(self.SOME).pieces(1), [(0, 1)])
        self.assertEqual(Spans(self.SOME).pieces(2), [(0, 2)])
        self.assertEqual(Spans(self.SOME).pieces(3), [(4, 3)])

    def test_the_longest_whole_then_the_rule_again(self):
        self.assertEqual(Spans(self.SOME).pieces(6), [(20, 5), (0, 1)])
        self.assertEqual(Spans(self.SOME).pieces(7), [(20, 5), (0, 2)])
        self.assertEqual(Spans(self.SOME).pieces(8), [(20, 5), (4, 3)])

    def test_of_equal_long_ones_the_least_first_block(self):
        self.assertEqual(Spans(self.SOME).pieces(9), [(20, 5), (4, 3), (0, 1)])
        self.assertEqual(Spans([0, 1, 4, 5, 8, 9]).pieces(3), [(0, 2), (4, 1)])

    def test_all_blocks(self):
        self.assertEqual(Spans(self.SOME).pieces(15), [(20, 5), (4, 3), (10, 3), (0, 2), (30, 2)])
        self.assertEqual(Spans([6]).pieces(1), [(6, 1)])

    def test_great_numbers(self):
        spans = Spans([FAR, FAR - 1, FAR - 2, 5])
        self.assertEqual(spans.pieces(2), [(FAR - 2, 2)])
        self.assertEqual(spans.pieces(4), [(FAR - 2, 3), (5, 1)])

    def test_a_list_of_tuples(self):
        told = Spans(self.SOME).pieces(9)
        self.assertIs(type(told), list)
        self.assertEqual([type(piece) for piece in told], [tuple, tuple, tuple])

    def test_every_small_set_by_the_rule(self):
        for blocks in small_sets():
            spans = Spans(blocks)
            for many in range(len(blocks) + 1):
                told = spans.pieces(many)
                self.assertEqual(told, by_the_rule(stretches(blocks), many), (blocks, many))
                placed = blocks_in(told)
                self.assertEqual((len(placed), len(set(placed))), (many, many))
                self.assertLessEqual(set(placed), set(blocks))

    def test_no_fewer_pieces_would_do(self):
        for blocks in small_sets():
            sizes = sorted((size for first, size in stretches(blocks)), reverse=True)
            for many in range(len(blocks) + 1):
                fewest = next(k for k in range(len(sizes) + 1) if sum(sizes[:k]) >= many)
                self.assertEqual(len(Spans(blocks).pieces(many)), fewest)

    def test_asked_twice_with_the_first_list_changed(self):
        spans = Spans(self.SOME)
        told = spans.pieces(6)
        told.clear()
        self.assertEqual(spans.pieces(6), [(20, 5), (0, 1)])
        self.assertEqual(spans.blocks(), self.SOME)

    def test_below_nought(self):
        for spans in (Spans(self.SOME), Spans()):
            for many in (-1, -5, -FAR):
                with self.assertRaises(BadMany) as caught:
                    spans.pieces(many)
                self.assertEqual(caught.exception.many, many)
                self.assertEqual(str(caught.exception), f"BadMany {many}")

    def test_more_than_there_is(self):
        for spans, many, there in (
            (Spans(self.SOME), 16, 15),
            (Spans(self.SOME), FAR, 15),
            (Spans(), 1, 0),
            (Spans([FAR]), 2, 1),
        ):
            with self.assertRaises(Short) as caught:
                spans.pieces(many)
            self.assertEqual((caught.exception.asked, caught.exception.there), (many, there))
            self.assertEqual(str(caught.exception), f"Short {many} {there}")

    def test_a_good_number_behind_a_refusal(self):
        spans = Spans([1, 2, 5])
        for many in (-1, 4):
            with self.assertRaises(StowError):
                spans.pieces(many)
            self.assertEqual(spans.pieces(3), [(1, 2), (5, 1)])
            self.assertEqual(spans.blocks(), [1, 2, 5])


if __name__ == "__main__":
    unittest.main()
