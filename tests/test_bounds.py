"""The interface's section latestow/bounds.py."""

import unittest

from latestow import bounds


class BoundsTest(unittest.TestCase):
    def test_the_four_numbers(self):
        self.assertEqual(bounds.PAGES, 60)
        self.assertEqual(bounds.FILES, 24)
        self.assertEqual(bounds.FOLDERS, 12)
        self.assertEqual(bounds.OWNERS, 10)

    def test_they_are_whole_numbers(self):
        for number in (bounds.PAGES, bounds.FILES, bounds.FOLDERS, bounds.OWNERS):
            self.assertIs(type(number), int)


if __name__ == "__main__":
    unittest.main()
