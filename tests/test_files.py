"""What a file is in hand: promises 6, 7, 9, 10, 11, 14 and 15, as far as they speak of one file."""

import random
import unittest

from latestow.files import ASIDE, WRITTEN, File
from latestow.maps import charge, places_of, worst


def state(file):
    return (file.owner, file.late, file.due, file.places, file.before, file.sheets)


def settled(file, first_block=100):
    """Settles the pages of a file into blocks in a row."""
    given = [(page, first_block + at) for at, page in enumerate(file.wanting())]
    written = file.settle_pages(given)
    file.settle_map([])
    return written


def words(file):
    return [(page, file.word_of(page)) for page in file.standing()]


class PagesTest(unittest.TestCase):
    def test_a_new_file(self):
        file = File(3)
        self.assertEqual(state(file), (3, {}, {}, {}, 0, []))
        self.assertEqual((file.standing(), file.wanting(), file.map_rows()), ([], [], []))
        self.assertEqual((file.charged(), file.room_taken(), file.sheets_needed()), (0, 0, 0))
        self.assertTrue(file.is_settled_wholly())

    def test_writing_makes_pages_late(self):
        file = File(0)
        values = [7, 0, 9]
        file.make_late(2, values)
        values[0] = 8
        self.assertEqual(file.late, {2: 7, 3: 0, 4: 9})
        self.assertEqual(words(file), [(2, "late"), (3, "late"), (4, "late")])
        self.assertEqual(file.wanting(), [2, 3, 4])
        file.make_late(3, [5])
        self.assertEqual(file.late, {2: 7, 3: 5, 4: 9})
        file.make_late(3, [])
        self.assertEqual(file.late, {2: 7, 3: 5, 4: 9})

    def test_reserving_makes_those_due_that_stand_in_no_way(self):
        file = File(0)
        file.make_late(0, [1])
        file.make_due(0, 3)
        self.assertEqual(words(file), [(0, "late"), (1, "due"), (2, "due")])
        settled(file)
        file.make_due(0, 4)
        self.assertEqual(words(file), [(0, "kept"), (1, "aside"), (2, "aside"), (3, "due")])
        self.assertEqual(file.due, {3: True})

    def test_a_late_page_is_not_due(self):
        file = File(0)
        file.make_due(0, 2)
        file.make_late(0, [4])
        self.assertEqual((file.due, file.late), ({1: True}, {0: 4}))
        self.assertEqual(file.wanting(), [0, 1])

    def test_a_hole_takes_pages_away_in_each_way(self):
        file = File(0)
        file.make_late(0, [1, 2])
        file.make_due(2, 2)
        settled(file)
        file.make_late(0, [3])
        file.make_late(2, [4])
        file.make_late(6, [5, 6])
        file.make_due(8, 2)
        file.take_away(0, 1)
        self.assertEqual(words(file), [(1, "kept"), (2, "late"), (3, "aside"), (6, "late"), (7, "late"), (8, "due"),
                                       (9, "due")])
        file.take_away(2, 2)
        file.take_away(7, 2)
        self.assertEqual(words(file), [(1, "kept"), (6, "late"), (9, "due")])
        file.take_away(0, 60)
        self.assertEqual((file.late, file.due, file.places), ({}, {}, {}))
        file.take_away(0, 60)
        self.assertEqual(file.before, 4)

    def test_which_pages_want(self):
        file = File(0)
        file.make_late(0, [1, 2])
        file.make_due(2, 2)
        settled(file)
        self.assertEqual(file.wanting(), [])
        file.make_late(1, [5])
        file.make_late(2, [6])
        # What is written gets a block beside; what is set aside is written where it lies.
        self.assertEqual(file.wanting(), [1])
        file.make_due(9, 1)
        file.make_late(11, [0])
        self.assertEqual(file.wanting(), [1, 9, 11])

    def test_wholly_settled(self):
        file = File(0)
        file.make_due(0, 1)
        self.assertFalse(file.is_settled_wholly())
        settled(file)
        self.assertTrue(file.is_settled_wholly())
        file.make_late(0, [1])
        self.assertFalse(file.is_settled_wholly())
        file.take_away(0, 1)
        self.assertTrue(file.is_settled_wholly())


class SettleTest(unittest.TestCase):
    def test_late_pages_are_written_and_due_ones_set_aside(self):
        file = File(0)
        file.make_late(0, [7])
        file.make_due(1, 1)
        file.make_late(2, [9])
        self.assertEqual(file.settle_pages([(0, 4), (1, 5), (2, 3)]), [(4, 7), (3, 9)])
        self.assertEqual(file.places, {0: (4, WRITTEN), 1: (5, ASIDE), 2: (3, WRITTEN)})
        self.assertEqual((file.late, file.due), ({}, {}))
        self.assertEqual(file.map_rows(), [(0, 4, 1, 1), (1, 5, 1, 0), (2, 3, 1, 1)])
        self.assertEqual((file.before, file.sheets), (0, []))
        file.settle_map([11, 10])
        self.assertEqual((file.before, file.sheets), (3, [11, 10]))

    def test_what_is_written_gets_a_block_beside(self):
        file = File(0)
        file.make_late(0, [7, 8])
        file.settle_pages([(0, 4), (1, 5)])
        file.make_late(1, [9])
        self.assertEqual(file.settle_pages([(1, 6)]), [(6, 9)])
        self.assertEqual(file.places, {0: (4, WRITTEN), 1: (6, WRITTEN)})

    def test_what_is_set_aside_is_written_where_it_lies(self):
        file = File(0)
        file.make_due(0, 2)
        file.settle_pages([(0, 4), (1, 5)])
        file.make_late(1, [9])
        self.assertEqual(file.settle_pages([]), [(5, 9)])
        self.assertEqual(file.places, {0: (4, ASIDE), 1: (5, WRITTEN)})

    def test_the_sheets_are_a_list_of_its_own(self):
        file = File(0)
        blocks = [3]
        file.settle_map(blocks)
        blocks.append(4)
        self.assertEqual(file.sheets, [3])

    def test_sheets_needed(self):
        for rows in range(40):
            file = File(0)
            for at in range(rows):
                file.places[at] = (at * 2, WRITTEN)
            self.assertEqual(file.sheets_needed(), worst(rows))
        file = File(0)
        for at in range(60):
            file.places[at] = (at, WRITTEN)
        self.assertEqual(file.sheets_needed(), 0)


class CountTest(unittest.TestCase):
    def test_charge_in_whatever_way_pages_stand(self):
        for many in range(61):
            late, due = File(0), File(0)
            late.make_late(0, [1] * many)
            due.make_due(0, many)
            self.assertEqual((late.charged(), due.charged()), (charge(many), charge(many)))
            settled(due)
            self.assertEqual(due.charged(), charge(many))
            due.make_late(0, [1] * many)
            self.assertEqual(due.charged(), charge(many))

    def test_room(self):
        file = File(0)
        file.make_late(0, [1] * 10)
        self.assertEqual(file.room_taken(), 10 + 2)
        settled(file)
        self.assertEqual(file.room_taken(), 2)
        file.make_late(9, [1, 1])
        self.assertEqual(file.room_taken(), 2 + 2)
        file.take_away(0, 60)
        # The disk still has the map of ten pages.
        self.assertEqual(file.room_taken(), 2)
        settled(file)
        self.assertEqual(file.room_taken(), 0)

    def test_sheets_go_by_the_greater_of_now_and_then(self):
        file = File(0)
        file.make_late(0, [1] * 4)
        settled(file)
        file.make_late(4, [1] * 20)
        self.assertEqual(file.sheets_for_all(), worst(24))
        file.take_away(0, 23)
        self.assertEqual(file.sheets_for_all(), worst(4))


class CopyTest(unittest.TestCase):
    def made(self):
        file = File(2)
        file.make_late(0, [1, 2])
        file.make_due(2, 2)
        settled(file)
        file.settle_map([50])
        file.make_late(1, [3])
        file.make_late(2, [4])
        file.make_due(7, 1)
        return file

    def test_a_copy_and_its_original_know_nothing_of_one_another(self):
        file = self.made()
        other = file.copied()
        self.assertEqual(state(other), state(file))
        other.make_late(20, [1])
        other.make_due(30, 1)
        other.take_away(0, 1)
        other.sheets.append(9)
        other.owner = 5
        other.before = 40
        self.assertEqual(state(file), state(self.made()))

    def test_a_twin_holds_the_written_pages_alone(self):
        file = File(2)
        file.make_late(0, [1, 2])
        file.make_due(2, 2)
        settled(file)
        file.settle_map([50])
        twin = file.twin_for(7)
        self.assertEqual(state(twin), (7, {}, {}, {0: (100, WRITTEN), 1: (101, WRITTEN)}, 0, []))
        twin.take_away(0, 60)
        self.assertEqual(len(file.places), 4)

    def test_remains(self):
        file = self.made()
        other = file.remains()
        self.assertEqual(state(other), (2, {}, {}, {}, 4, [50]))
        other.sheets.append(9)
        self.assertEqual(state(file), state(self.made()))
        self.assertEqual(other.room_taken(), worst(4))

    def test_blocks(self):
        file = self.made()
        self.assertEqual(file.blocks_laid(), [100, 101, 102, 103])
        # Page 1 is written and late besides, page 2 is set aside and late besides.
        self.assertEqual(file.blocks_staying(), [100, 102, 103])

    def test_as_if_settled(self):
        file = self.made()
        other = file.as_if_settled()
        self.assertEqual(words(other), [(0, "kept"), (1, "kept"), (2, "kept"), (3, "aside"), (7, "aside")])
        self.assertEqual((other.before, other.wanting(), other.is_settled_wholly()), (5, [], True))
        self.assertEqual(state(file), state(self.made()))


class DrawnTest(unittest.TestCase):
    """Drawn deeds against a plain table of how each page stands."""

    def test_drawn_deeds(self):
        for seed in range(60):
            chance = random.Random(seed)
            file, table, block = File(0), {}, 0
            for step in range(60):
                page, many = chance.randrange(20), chance.randrange(6)
                deed = chance.choice(("late", "due", "hole", "settle"))
                if deed == "late":
                    file.make_late(page, [step] * many)
                    for one in range(page, page + many):
                        late, due, place = table.get(one, (None, False, None))
                        table[one] = (step, False, place)
                elif deed == "due":
                    file.make_due(page, many)
                    for one in range(page, page + many):
                        table.setdefault(one, (None, True, None))
                elif deed == "hole":
                    file.take_away(page, many)
                    for one in range(page, page + many):
                        table.pop(one, None)
                else:
                    given = [(one, block + at) for at, one in enumerate(file.wanting())]
                    block += len(given)
                    written = dict(file.settle_pages(given))
                    for one, to in given:
                        table[one] = (table[one][0], False, (to, ASIDE))
                    for one in list(table):
                        late, due, place = table[one]
                        if late is not None:
                            self.assertEqual(written.pop(place[0]), late)
                            table[one] = (None, False, (place[0], WRITTEN))
                    self.assertEqual(written, {})
                self.check(file, table)

    def check(self, file, table):
        self.assertEqual(file.standing(), sorted(table))
        for page, (late, due, place) in table.items():
            self.assertEqual(file.late.get(page), late)
            self.assertEqual(page in file.due, due)
            self.assertEqual(file.places.get(page), place)
            wants = due or late is not None and (place is None or place[1] == WRITTEN)
            self.assertEqual(page in file.wanting(), wants)
        self.assertEqual(places_of(file.map_rows()), file.places)


if __name__ == "__main__":
    unittest.main()
