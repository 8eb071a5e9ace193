"""Promise 8, as far as it speaks of paths, and the interface's section latestow/tree.py."""

import itertools
import unittest

from latestow.errors import BadPath, StowError
from latestow.tree import chain, fits, parent

PATHS = [
    "/", "/a", "/z", "/0", "/9", "/a/b", "/a/b/c", "/a/b/c/d", "/a/b/c/d/e", "/abcdefgh", "/01234567", "/a1b2c3d4",
    "/abcdefgh/ijklmnop/qrstuvwx/yz012345/6789abcd", "/a/a/a/a/a", "/0/00/000",
]
NO_PATHS = [
    "", "a", "a/b", "//", "///", "//a", "/a/", "/a//b", "/a/b/", "/a/b/c/d/e/", "/a/b/c/d/e/f", "/a/b/c/d/e/f/g",
    "/abcdefghi", "/a/abcdefghi", "/abcdefghi/a", "/" + "a" * 5000, "/a" * 5000, "/A", "/aB", "/Z", "/a/B", " ", "/ ",
    "/a ", " /a", "/a b", "/ a", "/a/ /b", "/a\n", "\n/a", "/a\t", "/\n", "/a\x00", "/a.b", "/.", "/..", "/a/..", "/a_b",
    "/a-b", "/-", "/_", "/a:b", "/a*", "/a\\b", "\\a", "\\", "/`", "/{", "/:", "/@", "/[", "/~", "/a,b", "/\u00e9",
    "/\u00df", "/\u0430", "/\uff41", "/\u0663", "/\u00b2", "/\u2460", "/\uff11", "/\u00aa", "/\u0131", "/a\u0301",
    "\uff0fa", "/\u212a", "/\U0001d41a",
]


class FitsTest(unittest.TestCase):
    def test_paths(self):
        for path in PATHS:
            with self.subTest(path):
                self.assertIs(fits(path), True)

    def test_no_paths(self):
        for path in NO_PATHS:
            with self.subTest(path[:20]):
                self.assertIs(fits(path), False)

    def test_each_sign(self):
        for number in range(0x3000):
            sign = chr(number)
            good = sign in "abcdefghijklmnopqrstuvwxyz0123456789"
            self.assertIs(fits("/" + sign), good, number)
            self.assertIs(fits("/a" + sign), good, number)

    def test_each_length_of_a_name(self):
        for many in range(1, 20):
            self.assertIs(fits("/" + "q" * many), many <= 8)
            self.assertIs(fits("/a/" + "5" * many + "/b"), many <= 8)

    def test_each_depth(self):
        for many in range(1, 20):
            self.assertIs(fits("/ab" * many), many <= 5)

    def test_short_texts_by_the_words(self):
        for many in range(8):
            for signs in itertools.product("/aA", repeat=many):
                text = "".join(signs)
                names = text.split("/")[1:]
                good = text == "/" or (text[:1] == "/" and all(name and set(name) == {"a"} for name in names))
                self.assertIs(fits(text), good, text)


class ParentTest(unittest.TestCase):
    def test_each_depth(self):
        for path, told in (
            ("/a", "/"), ("/abcdefgh", "/"), ("/a/b", "/a"), ("/a/b/c", "/a/b"), ("/a/b/c/d", "/a/b/c"),
            ("/a/b/c/d/e", "/a/b/c/d"), ("/a/a", "/a"), ("/ab/a", "/ab"), ("/a/ab", "/a"),
        ):
            self.assertEqual(parent(path), told)

    def test_the_parent_of_a_path_is_a_path(self):
        for path in PATHS[1:]:
            self.assertIs(fits(parent(path)), True)

    def test_the_root_is_refused(self):
        with self.assertRaises(BadPath) as caught:
            parent("/")
        self.assertEqual((caught.exception.path, str(caught.exception)), ("/", "BadPath /"))

    def test_what_is_no_path_is_refused(self):
        for path in NO_PATHS:
            with self.subTest(path[:20]):
                with self.assertRaises(BadPath) as caught:
                    parent(path)
                self.assertEqual(caught.exception.path, path)
                self.assertEqual(str(caught.exception), "BadPath " + path)
                self.assertIsInstance(caught.exception, StowError)


class ChainTest(unittest.TestCase):
    def test_each_depth(self):
        for path, told in (
            ("/", []), ("/a", ["/"]), ("/a/b", ["/a", "/"]), ("/a/b/c", ["/a/b", "/a", "/"]),
            ("/a/b/c/d", ["/a/b/c", "/a/b", "/a", "/"]),
            ("/a/b/c/d/e", ["/a/b/c/d", "/a/b/c", "/a/b", "/a", "/"]),
        ):
            self.assertEqual(chain(path), told)
            self.assertIs(type(chain(path)), list)

    def test_a_new_list_each_time(self):
        for path in ("/", "/a/b"):
            told = chain(path)
            kept = list(told)
            told.append("/x")
            told.reverse()
            self.assertEqual(chain(path), kept)

    def test_it_begins_with_the_parent(self):
        for path in PATHS[1:]:
            self.assertEqual(chain(path), [parent(path), *chain(parent(path))])
            self.assertEqual(chain(path)[-1], "/")

    def test_what_is_no_path_is_refused(self):
        for path in NO_PATHS:
            with self.subTest(path[:20]):
                with self.assertRaises(BadPath) as caught:
                    chain(path)
                self.assertEqual(caught.exception.path, path)
                self.assertEqual(str(caught.exception), "BadPath " + path)


if __name__ == "__main__":
    unittest.main()
