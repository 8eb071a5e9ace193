"""Promise 12, as far as it speaks of the pages of one file, with promise 3: the interface's section latestow/stow.py."""

import random
import unittest

from latestow.errors import Short, StowError
from latestow.spans import Spans
from latestow.stow import placed


def runs_of_pages(pages):
    runs = []
    for page in sorted(pages):
        if runs and runs[-1][-1] + 1 == page:
            runs[-1].append(page)
        else:
            runs.append([page])
    return runs


def piece_by_the_words(free, rest):
    """Point 3, one piece, without any of the package's help."""
    stretches = runs_of_pages(free)
    holding = [run for run in stretches if len(run) >= rest]
    if holding:
        shortest = min(len(run) for run in holding)
        return [run for run in holding if len(run) == shortest][0][:rest]
    longest = max(len(run) for run in stretches)
    return [run for run in stretches if len(run) == longest][0]


def placed_by_the_words(free, pages):
    free = set(free)
    told = []
    for run in runs_of_pages(pages):
        if len(run) > len(free):
            return len(run), len(free)
        run = list(run)
        while run:
            piece = piece_by_the_words(free, len(run))
            for block in piece:
                told.append((run.pop(0), block))
                free.discard(block)
    return told


class PlacedTest(unittest.TestCase):
    def test_no_page(self):
        self.assertEqual(placed(Spans([1, 2]), []), [])
        self.assertEqual(placed(Spans(), []), [])

    def test_one_page(self):
        self.assertEqual(placed(Spans([5]), [7]), [(7, 5)])

    def test_one_run_in_one_stretch(self):
        self.assertEqual(placed(Spans([3, 4, 5, 6]), [10, 11, 12]), [(10, 3), (11, 4), (12, 5)])

    def test_the_order_of_pages_does_not_matter(self):
        free = Spans([0, 1, 2, 5, 6, 9])
        pages = [0, 1, 4, 5, 6]
        told = [(0, 5), (1, 6), (4, 0), (5, 1), (6, 2)]
        self.assertEqual(placed(free, pages), told)
        self.assertEqual(placed(free, pages[::-1]), told)
        for seed in range(20):
            turned = list(pages)
            random.Random(seed).shuffle(turned)
            self.assertEqual(placed(free, turned), told)

    def test_each_run_takes_its_own_pieces(self):
        # One piece for all four would be 0 to 3; the runs take the shortest stretch that holds each.
        self.assertEqual(
            placed(Spans([0, 1, 2, 3, 6, 7, 9]), [0, 1, 3, 4]), [(0, 6), (1, 7), (3, 0), (4, 1)],
        )

    def test_runs_from_the_least_page_on(self):
        self.assertEqual(placed(Spans([2, 8]), [9, 3]), [(3, 2), (9, 8)])

    def test_the_longest_one_whole_first(self):
        free = Spans([0, 1, 4, 5, 6, 9])
        self.assertEqual(placed(free, [0, 1, 2, 3]), [(0, 4), (1, 5), (2, 6), (3, 9)])
        self.assertEqual(placed(free, [0, 1, 2, 3, 4]), [(0, 4), (1, 5), (2, 6), (3, 0), (4, 1)])

    def test_the_shortest_stretch_that_holds_the_rest(self):
        free = Spans([0, 1, 2, 3, 4, 10, 11, 12, 20, 21])
        self.assertEqual(placed(free, [7, 8]), [(7, 20), (8, 21)])
        self.assertEqual(placed(free, [7, 8, 9]), [(7, 10), (8, 11), (9, 12)])
        self.assertEqual(placed(free, [7, 8, 9, 10]), [(7, 0), (8, 1), (9, 2), (10, 3)])
        self.assertEqual(placed(free, list(range(7)))[5:], [(5, 20), (6, 21)])

    def test_equal_stretches_the_least_first_block(self):
        free = Spans([1, 2, 5, 6, 8, 9])
        self.assertEqual(placed(free, [0]), [(0, 1)])
        self.assertEqual(placed(free, [0, 1, 2]), [(0, 1), (1, 2), (2, 5)])
        self.assertEqual(placed(free, [0, 1, 3]), [(0, 1), (1, 2), (3, 5)])

    def test_a_stretch_that_is_cut_is_a_shorter_one_for_the_next_run(self):
        # Page 0 leaves 1 and 2 of the first stretch, the shortest one then for pages 2 and 3.
        self.assertEqual(placed(Spans([0, 1, 2, 5, 6, 7]), [0, 2, 3]), [(0, 0), (2, 1), (3, 2)])

    def test_pages_go_by_pieces_not_by_blocks(self):
        self.assertEqual(placed(Spans([1, 7, 8]), [4, 5, 6]), [(4, 7), (5, 8), (6, 1)])

    def test_all_blocks_taken(self):
        free = Spans([0, 2, 3, 9])
        self.assertEqual(placed(free, [0, 1, 2, 3]), [(0, 2), (1, 3), (2, 0), (3, 9)])
        self.assertEqual(placed(free, [0, 2, 4, 6]), [(0, 0), (2, 9), (4, 2), (6, 3)])

    def test_kinds(self):
        told = placed(Spans([4, 5]), [1, 2])
        self.assertIsInstance(told, list)
        self.assertTrue(all(isinstance(row, tuple) and len(row) == 2 for row in told))

    def test_what_is_handed_in_stays(self):
        free = Spans([4, 5, 9])
        pages = [8, 1, 2]
        placed(free, pages)
        self.assertEqual((free, pages), (Spans([4, 5, 9]), [8, 1, 2]))

    def test_asked_twice_the_first_answer_changed_between(self):
        free = Spans([4, 5, 9])
        first = placed(free, [1, 2])
        first.append((3, 9))
        first[0] = (0, 0)
        self.assertEqual(placed(free, [1, 2]), [(1, 4), (2, 5)])

    def test_by_the_words(self):
        for seed in range(400):
            chance = random.Random(seed)
            free = [block for block in range(40) if chance.random() < chance.choice((0.2, 0.5, 0.9))]
            pages = [page for page in range(30) if chance.random() < chance.choice((0.1, 0.5, 0.9))]
            chance.shuffle(pages)
            told = placed_by_the_words(free, pages)
            with self.subTest(seed):
                if isinstance(told, list):
                    self.assertEqual(placed(Spans(free), pages), told)
                else:
                    with self.assertRaises(Short) as caught:
                        placed(Spans(free), pages)
                    self.assertEqual((caught.exception.asked, caught.exception.there), told)


class ShortTest(unittest.TestCase):
    def refused(self, blocks, pages, asked, there):
        free = Spans(blocks)
        handed = list(pages)
        with self.assertRaises(Short) as caught:
            placed(free, handed)
        error = caught.exception
        self.assertEqual((error.asked, error.there), (asked, there))
        self.assertEqual(str(error), f"Short {asked} {there}")
        self.assertIsInstance(error, StowError)
        self.assertEqual((free, handed), (Spans(blocks), pages))
        if blocks:
            self.assertEqual(placed(free, [3]), [(3, free.pieces(1)[0][0])])

    def test_one_run(self):
        self.refused([1, 2], [0, 1, 2], 3, 2)

    def test_no_block_at_all(self):
        self.refused([], [4], 1, 0)
        self.refused([], [4, 5, 9], 2, 0)

    def test_the_first_run_for_which_it_lacks(self):
        self.refused([1, 2, 3], [0, 1, 3, 4, 6, 7, 8], 2, 1)
        self.refused([1, 2, 3], [8, 7, 6, 4, 3, 1, 0], 2, 1)
        self.refused([1, 2, 3], [0, 2, 4, 6], 1, 0)
        self.refused([1, 2, 3], [0, 2, 3, 4, 6], 3, 2)

    def test_one_page_too_many(self):
        blocks = list(range(10))
        self.refused(blocks, list(range(11)), 11, 10)
        self.assertEqual(len(placed(Spans(blocks), list(range(10)))), 10)


if __name__ == "__main__":
    unittest.main()
