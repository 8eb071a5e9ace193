"""Promises 1, 6 and 7, and the interface's section latestow/maps.py."""

import itertools
import random
import unittest

from latestow import maps
from latestow.maps import charge, packed, places_of, runs_of, unpacked, worst

FAR = 10 ** 30


def rows(many):
    """So many rows of which no two could be one."""
    return [(2 * page, 3 * page, 1, page % 2) for page in range(many)]


def least_sheets(pages, node, sheet):
    """Promise 7, word for word, for small numbers."""
    many = 0
    while node + many * sheet < pages:
        many += 1
    return many


def some_places(chance):
    pages = chance.sample(range(60), chance.randrange(61))
    if chance.random() < 0.5:
        blocks = chance.sample(range(200), len(pages))
    else:
        blocks = list(range(100, 100 + len(pages)))
        pages.sort()
    places = {page: (block, chance.choice((0, 1, 1, 1))) for page, block in zip(pages, blocks)}
    order = list(places)
    chance.shuffle(order)
    return {page: places[page] for page in order}


class WorstTest(unittest.TestCase):
    def test_the_two_numbers(self):
        self.assertEqual((maps.NODE, maps.SHEET), (3, 6))

    def test_plain(self):
        for pages, sheets in ((0, 0), (1, 0), (3, 0), (4, 1), (9, 1), (10, 2), (15, 2), (16, 3), (57, 9), (58, 10),
                              (60, 10)):
            self.assertEqual(worst(pages), sheets)
            self.assertIs(type(worst(pages)), int)

    def test_great_numbers(self):
        self.assertEqual(worst(6 * FAR + 3), FAR)
        self.assertEqual(worst(6 * FAR + 4), FAR + 1)
        self.assertEqual(worst(6 * FAR + 9), FAR + 1)
        self.assertEqual(worst(FAR), (FAR - 3) // 6 + 1)
        self.assertEqual(worst(FAR, node=FAR), 0)
        self.assertEqual(worst(FAR + 1, node=FAR), 1)
        self.assertEqual(worst(FAR, sheet=FAR), 1)
        self.assertEqual(worst(FAR, node=0, sheet=1), FAR)
        self.assertEqual(worst(3, node=FAR, sheet=FAR), 0)

    def test_node_and_sheet_by_name(self):
        self.assertEqual(worst(10, node=4), 1)
        self.assertEqual(worst(10, node=3), 2)
        self.assertEqual(worst(10, sheet=7), 1)
        self.assertEqual(worst(10, sheet=2), 4)
        self.assertEqual(worst(10, node=1, sheet=4), 3)
        self.assertEqual(worst(10, sheet=4, node=1), 3)
        self.assertEqual(worst(sheet=4, node=1, pages=10), 3)

    def test_node_of_nought_and_sheet_of_one(self):
        self.assertEqual([worst(pages, node=0) for pages in (0, 1, 6, 7)], [0, 1, 1, 2])
        self.assertEqual([worst(pages, sheet=1) for pages in (0, 3, 4, 60)], [0, 0, 1, 57])
        self.assertEqual([worst(pages, node=0, sheet=1) for pages in (0, 1, 60)], [0, 1, 60])

    def test_small_numbers_by_the_words(self):
        for pages, node, sheet in itertools.product(range(30), range(8), range(1, 9)):
            self.assertEqual(worst(pages, node=node, sheet=sheet), least_sheets(pages, node, sheet))

    def test_node_and_sheet_are_handed_in_by_name_alone(self):
        with self.assertRaises(TypeError):
            worst(10, 3, 6)


class ChargeTest(unittest.TestCase):
    def test_plain(self):
        for pages, told in ((0, 0), (3, 3), (4, 5), (9, 10), (10, 12), (60, 70)):
            self.assertEqual(charge(pages), told)

    def test_each_number_of_pages(self):
        for pages in range(70):
            self.assertEqual(charge(pages), pages + least_sheets(pages, 3, 6))

    def test_great_numbers(self):
        self.assertEqual(charge(6 * FAR + 3), 7 * FAR + 3)
        self.assertEqual(charge(FAR), FAR + (FAR - 3) // 6 + 1)


class RunsTest(unittest.TestCase):
    def test_none(self):
        self.assertEqual(runs_of({}), [])
        self.assertEqual(places_of([]), {})

    def test_one(self):
        self.assertEqual(runs_of({59: (199, 0)}), [(59, 199, 1, 0)])

    def test_rows_that_could_be_one_are_one(self):
        self.assertEqual(runs_of({0: (7, 1), 1: (8, 1), 2: (9, 1)}), [(0, 7, 3, 1)])
        self.assertEqual(runs_of({4: (0, 0), 5: (1, 0)}), [(4, 0, 2, 0)])

    def test_what_does_not_follow_in_one_of_the_three(self):
        for second, other in (
            ((1, 8, 0), "kind"),
            ((1, 9, 1), "block, one left out"),
            ((1, 7, 1), "block, the same"),
            ((1, 6, 1), "block, the one ahead"),
            ((2, 8, 1), "page"),
            ((2, 8, 0), "page and kind"),
            ((1, 9, 0), "block and kind"),
            ((2, 9, 1), "page and block"),
            ((2, 9, 0), "all"),
        ):
            with self.subTest(other):
                page, block, kind = second
                self.assertEqual(runs_of({0: (7, 1), page: (block, kind)}), [(0, 7, 1, 1), (page, block, 1, kind)])

    def test_rows_part_and_go_on(self):
        places = {0: (5, 1), 1: (6, 1), 2: (7, 0), 3: (8, 0), 4: (9, 1), 6: (10, 1), 7: (3, 1), 8: (4, 1)}
        self.assertEqual(
            runs_of(places), [(0, 5, 2, 1), (2, 7, 2, 0), (4, 9, 1, 1), (6, 10, 1, 1), (7, 3, 2, 1)]
        )

    def test_any_order_of_the_keys(self):
        places = {0: (5, 1), 1: (6, 1), 2: (9, 1), 10: (7, 1)}
        for order in itertools.permutations(places):
            self.assertEqual(
                runs_of({page: places[page] for page in order}), [(0, 5, 2, 1), (2, 9, 1, 1), (10, 7, 1, 1)]
            )

    def test_great_numbers(self):
        self.assertEqual(runs_of({FAR + 1: (FAR, 1), FAR: (FAR - 1, 1)}), [(FAR, FAR - 1, 2, 1)])
        self.assertEqual(places_of([(FAR, 5, 2, 0)]), {FAR: (5, 0), FAR + 1: (6, 0)})

    def test_places_of(self):
        self.assertEqual(
            places_of([(0, 7, 3, 1), (5, 2, 1, 0)]), {0: (7, 1), 1: (8, 1), 2: (9, 1), 5: (2, 0)}
        )

    def test_there_and_back_with_the_fewest_rows(self):
        chance = random.Random(6)
        for story in range(300):
            places = some_places(chance)
            told = runs_of(places)
            self.assertEqual(places_of(told), places)
            self.assertEqual(told, sorted(told))
            for row, behind in zip(told, told[1:]):
                goes_on = (row[0] + row[2], row[1] + row[2], row[3])
                self.assertNotEqual(goes_on, (behind[0], behind[1], behind[3]))

    def test_kinds_of_values(self):
        told = runs_of({0: (7, 1), 3: (8, 1)})
        self.assertIs(type(told), list)
        self.assertEqual([type(row) for row in told], [tuple, tuple])
        back = places_of(told)
        self.assertIs(type(back), dict)
        self.assertEqual([type(place) for place in back.values()], [tuple, tuple])

    def test_handed_things_stay_and_told_things_changed_do_no_harm(self):
        places = {3: (8, 1), 0: (7, 1), 1: (8, 1)}
        told = runs_of(places)
        self.assertEqual(list(places.items()), [(3, (8, 1)), (0, (7, 1)), (1, (8, 1))])
        places[2] = (9, 1)
        self.assertEqual(told, [(0, 7, 2, 1), (3, 8, 1, 1)])
        back = places_of(told)
        self.assertEqual(told, [(0, 7, 2, 1), (3, 8, 1, 1)])
        told.clear()
        self.assertEqual(back, {0: (7, 1), 1: (8, 1), 3: (8, 1)})
        back.clear()
        self.assertEqual(runs_of({0: (7, 1)}), [(0, 7, 1, 1)])
        self.assertEqual(places_of([(0, 7, 1, 1)]), {0: (7, 1)})


class PackedTest(unittest.TestCase):
    def test_how_many_rows_stand_where(self):
        for many, sizes in (
            (0, []), (1, []), (2, []), (3, []), (4, [1]), (8, [5]), (9, [6]), (10, [6, 1]), (15, [6, 6]),
            (16, [6, 6, 1]), (60, [6] * 9 + [3]),
        ):
            with self.subTest(many):
                first, sheets = packed(rows(many))
                self.assertEqual(len(first), min(many, 3))
                self.assertEqual([len(sheet) for sheet in sheets], sizes)

    def test_the_rows_in_their_order(self):
        for many in range(61):
            first, sheets = packed(rows(many))
            self.assertEqual([*first, *itertools.chain(*sheets)], rows(many))

    def test_there_and_back(self):
        for many in range(61):
            first, sheets = packed(rows(many))
            self.assertEqual(unpacked(first, sheets), rows(many))

    def test_kinds_of_values(self):
        for many in (0, 3, 4, 10):
            told = packed(rows(many))
            self.assertIs(type(told), tuple)
            first, sheets = told
            self.assertIs(type(first), tuple)
            self.assertIs(type(sheets), list)
            for sheet in sheets:
                self.assertIs(type(sheet), tuple)
            self.assertIs(type(unpacked(first, sheets)), list)
        self.assertEqual(packed([]), ((), []))
        self.assertEqual(unpacked((), []), [])

    def test_handed_things_stay_and_told_things_changed_do_no_harm(self):
        handed = rows(10)
        first, sheets = packed(handed)
        self.assertEqual(handed, rows(10))
        handed.clear()
        self.assertEqual((len(first), [len(sheet) for sheet in sheets]), (3, [6, 1]))
        kept = list(sheets)
        told = unpacked(first, sheets)
        self.assertEqual(sheets, kept)
        sheets.clear()
        self.assertEqual(told, rows(10))
        told.clear()
        self.assertEqual(unpacked(first, kept), rows(10))
        self.assertEqual(packed([]), ((), []))

    def test_never_more_sheets_than_worst(self):
        chance = random.Random(7)
        most = 0
        for story in range(300):
            places = some_places(chance)
            first, sheets = packed(runs_of(places))
            self.assertLessEqual(len(first) + sum(len(sheet) for sheet in sheets), len(places))
            self.assertLessEqual(len(sheets), worst(len(places)))
            most = max(most, len(sheets))
        self.assertGreater(most, 5)

    def test_as_many_sheets_as_worst_where_no_two_rows_join(self):
        for pages in range(61):
            places = {page: (2 * page, 1) for page in range(pages)}
            self.assertEqual(len(packed(runs_of(places))[1]), worst(pages))


if __name__ == "__main__":
    unittest.main()
