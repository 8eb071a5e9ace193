"""Promises 27 and 28, with the interface's section latestow/desk.py."""

import random
import unittest

from drawn import begin, draw_deed
from keeping import KeeperCase
from latestow.desk import Desk
from latestow.disk import Disk
from latestow.errors import Cut, Gone, StowError, Undone
from latestow.keeper import Keeper
from plain import Plain, Refused, state_of

TWELVE = "9" * 12
# Lines that are none, whatever stands in the store.
NO_LINES = (
    "", " ", "  ", "\n", "hello", "LEFT", "Left", "left ", " left", "left\n", "left left", "left /a", "files 1", "files ",
    "settle ", "settle /a ", "settle  /a", "settle a", "settle /a /b", "settle 1", "settle\n", "settle\t/a", "make",
    "make /b", "make /b 1 2", "make b 1", "make /b x", "make /b -1", "make /b 01", "make /b +1", "make /b 1\n",
    "make  /b 1", "make /b  1", "make /b\t1", "make /b 1 ", "make 1 /b", "make /b 1234567890123", "make /b 00",
    "make /b " + "\u0661", "make /b \u00b2", "make /b 1.0", "make /b 1_0", "make /b 0x1", "fold", "fold b", "fold /b /c",
    "fold\t/b", "drop", "drop a", "drop /a /b", "drop \n/a", "drop\n/a", "drop \t/a", "\ndrop /a", "\tleft", "write",
    "write /a", "write /a 0", "write a 0 1", "write /a x 1", "write /a 0 x", "write /a 0 1 x", "write /a 0 1 ",
    "write /a 0  1", "write /a 0 01", "write /a -1 1", "write /a 0 -1", "write /a 0 1234567890123", "write /a 00 1",
    "write 1 /a 0 1", "draw", "draw 1", "draw 1 /a", "draw 1 /a 0", "draw /a 0 1", "draw x /a 0 1", "draw 01 /a 0 1",
    "draw 1 /a 0 1 x", "reserve /a 0", "reserve /a 0 1 2", "reserve /a 0 -1", "reserve /a 0 01", "hole /a 0",
    "hole /a 0 1 2", "hole a 0 1", "hole /a 0 -1", "shorten /a", "shorten /a 1 2", "shorten /a -1", "shorten 1", "twin /a",
    "twin /a b", "twin a /b", "twin /a /b 1", "twin /a /b /c", "move /a", "move /a b", "move /a /b /c", "give /a",
    "give /a /b", "give /a 1 2", "give 1 /a", "give /a -", "limit", "limit 1", "limit 1 2", "limit 1 2 3 4", "limit x 1 2",
    "limit - 1 2", "limit 1 -1 2", "limit 1 -- 2", "limit 1 / 2", "limit 01 1 2", "limit 1 1 02", "limit 1  2", "tick",
    "tick 1 2", "tick -1", "tick x", "tick 01", "tick /a", "pledge", "pledge 1 2", "pledge -1", "pledge x", "part 1",
    "part 1 2 3", "part /a 1", "part 1 -1", "release", "release 1 2", "release -1", "release x", "read /a", "read /a 0",
    "read /a 0 1 2", "read a 0 1", "read /a 0 -1", "charge", "charge x", "charge 1 2", "charge -", "charge -1",
    "charge /a /b", "charge 01", "read /a 0 1\n", "yes", "none", "mark", "back", "census", "plan", "now", "free",
    "behind", "pledges", "limits", "folders", "owner_of /a", "do_left", "tick 1\n", "tick \t1", "charge 1\t", "charge \n/",
    "limit 1 -\n -", "limit 1 - -\n", "limit \t1 - -", "limit 1\n - -", "write /a 0\n 1", "write /a 0 1\t", "draw 1\n /a 0 1",
    "twin /a\n/b", "twin /a \n/b", "twin \t/a /b", "files\n", "files\t", "settle \n/a", "release 1\n", "give /a\n 1\n",
)
# Each place of a line in which a PATH may stand; the things beside it are there.
PATH_PLACES = (
    "make {} 1", "fold {}", "drop {}", "write {} 0 5", "draw 1 {} 0 5", "reserve {} 0 1", "hole {} 0 1", "shorten {} 0",
    "twin {} /c", "twin /a {}", "move {} /c", "move /a {}", "give {} 1", "limit {} 1 1", "limit {} - -", "settle {}",
    "read {} 0 1", "charge {}",
)
# Words that begin as a path does and are none.
ODD_PATHS = (
    "/\n", "/a\n", "/\na", "/a\nb", "/\t", "/a\t", "/a\tb", "/a\r", "/a\x0b", "/a\x0c", "/a\x1c", "/a\x85", "/a\u00a0",
    "/a\u2028", "/\u3000", "/\n/a", "/a/\t", "/\n\n", "/a\x00", "/-", "//", "/A", "/a\n1",
)


class DeskCase(KeeperCase):
    def setUp(self):
        self.store(30, grace=3)
        self.desk = Desk(self.keeper)

    def lines(self, *pairs):
        for text, answer in pairs:
            self.assertEqual((text, self.desk.line(text)), (text, answer))

    def undone(self, at, why, lines):
        before, writes, handed = state_of(self.keeper), self.disk.writes, list(lines)
        with self.assertRaises(Undone) as caught:
            self.desk.together(handed)
        error = caught.exception
        self.assertEqual((error.at, error.why), (at, why))
        self.assertEqual(str(error), f"Undone {at} {why}")
        self.assertIsInstance(error, StowError)
        self.assertEqual(state_of(self.keeper), before)
        self.assertEqual((self.disk.writes, handed), (writes, list(lines)))


class LineTest(DeskCase):
    def test_each_line(self):
        self.lines(
            ("files", "none"), ("left", "30"), ("make /a 1", "yes"), ("fold /d", "yes"), ("make /d/b 0", "yes"),
            ("files", "/a /d/b"), ("write /a 0 5", "yes"), ("write /a 1 6 7 0", "yes"), ("read /a 0 5", "5 6 7 0 0"),
            ("read /a 0 0", "none"), ("read /a 1 1", "6"), ("left", "25"), ("charge 1", "5"), ("charge /", "5"),
            ("charge /d", "0"), ("charge 0", "0"), ("reserve /d/b 3 2", "yes"), ("left", "23"), ("settle /a", "yes"),
            ("settle", "yes"), ("twin /a /t", "yes"), ("files", "/a /d/b /t"), ("charge 1", "10"), ("hole /t 0 1", "yes"),
            ("read /t 0 2", "0 6"), ("shorten /t 2", "yes"), ("read /t 0 4", "0 6 0 0"), ("move /t /d/t", "yes"),
            ("give /d/t 4", "yes"), ("charge 4", "1"), ("drop /d/t", "yes"), ("files", "/a /d/b"), ("tick 2", "yes"),
            ("tick 0", "yes"), ("limit 1 5 9", "yes"), ("limit /d - 4", "yes"), ("limit / 20 -", "yes"), ("left", "23"),
            ("pledge 4", "1"), ("part 1 1", "2"), ("draw 1 /a 9 8", "yes"), ("draw 1 /a 10 8 8", "yes"), ("left", "19"),
            ("release 1", "0"), ("release 2", "1"), ("left", "20"),
        )
        self.assertEqual(self.keeper.limits(), [(1, 5, 9, 2), ("/", 20, None, None), ("/d", None, 4, None)])
        self.assertEqual(self.keeper.now(), 2)
        self.lines(("limit 1 - -", "yes"), ("limit /d - -", "yes"), ("limit / 0 0", "yes"))
        self.assertEqual(self.keeper.limits(), [("/", 0, 0, 2)])

    def test_answers_are_texts(self):
        for text in ("left", "files", "make /a 1", "charge /", "no line", "drop /b"):
            self.assertIsInstance(self.desk.line(text), str)

    def test_refusals(self):
        self.lines(
            ("make / 0", "no BadPath /"), ("make /A 0", "no BadPath /A"), ("make /no/a 0", "no NoFolder /no"),
            ("make /a 10", "no BadOwner 10"), (f"make /a {TWELVE}", f"no BadOwner {TWELVE}"), ("make /a 0", "yes"),
            ("make /a 0", "no Taken /a"), ("drop /b", "no NoFile /b"), ("write /a 60 1", "no BadPage 60"),
            ("write /a 59 1 2", "no BadPage 59"), ("reserve /a 0 61", "no BadPage 0"), ("shorten /a 61", "no BadPage 61"),
            ("read /a 61 0", "no BadPage 61"), ("read /b 0 1", "no NoFile /b"), ("charge 10", "no BadOwner 10"),
            ("charge /b", "no NoFolder /b"), ("charge //", "no BadPath //"), ("limit 10 1 1", "no BadOwner 10"),
            ("pledge 0", "no BadMany 0"), ("pledge 31", "no NoRoom 31 30 False"), ("release 1", "no NoPledge 1"),
            ("draw 1 /a 0 1", "no NoPledge 1"), ("part 0 1", "no NoPledge 0"), ("pledge 2", "1"),
            ("part 1 3", "no Dry 1 3 2"), ("draw 1 /a 0 1 2 3", "no Dry 1 3 2"), ("settle /b", "no NoFile /b"),
            ("settle /", "no NoFile /"), ("twin /a /a", "no Taken /a"), ("move /a /no/a", "no NoFolder /no"),
            ("give /a 10", "no BadOwner 10"), ("fold /d", "yes"), ("make /d/a 0", "yes"), ("drop /d", "no NotEmpty /d"),
            ("limit 0 - 1", "yes"), ("write /a 0 1 2", "no OverLimit 0 2 1"), ("limit 0 - -", "yes"),
            ("write /a 0 1", "yes"), ("twin /a /b", "no Unsettled /a"), ("limit / 0 -", "yes"), ("tick 3", "yes"),
            ("write /a 1 1", "no GraceOver / 0"), ("drop /a/", "no BadPath /a/"), ("drop /%", "no BadPath /%"),
            ("drop /\u00e9", "no BadPath /\u00e9"),
        )

    def test_a_refused_line_changes_nothing(self):
        self.lines(("make /a 0", "yes"), ("write /a 0 1 2", "yes"), ("pledge 3", "1"))
        before = state_of(self.keeper)
        self.lines(("write /a 9 " + "1 " * 49 + "1", "no NoRoom 59 25 False"), ("part 1 9", "no Dry 1 9 3"))
        self.assertEqual(state_of(self.keeper), before)

    def test_numbers(self):
        self.lines(
            ("make /a 0", "yes"), (f"write /a 0 {TWELVE} 0", "yes"), ("read /a 0 2", f"{TWELVE} 0"),
            (f"tick {TWELVE}", "yes"), (f"limit 0 {TWELVE} 100000000000", "yes"),
        )
        self.assertEqual(self.keeper.limits(), [(0, 10 ** 12 - 1, 10 ** 11, None)])

    def test_lines_that_are_none(self):
        self.lines(("make /a 0", "yes"), ("write /a 0 1", "yes"), ("pledge 2", "1"), ("make /1 0", "yes"))
        before, writes = state_of(self.keeper), self.disk.writes
        for text in NO_LINES:
            with self.subTest(text):
                self.assertEqual(self.desk.line(text), "no BadLine")
        self.assertEqual((state_of(self.keeper), self.disk.writes), (before, writes))

    def test_a_word_that_begins_with_a_stroke_is_a_path_word(self):
        self.lines(("make /a 0", "yes"), ("write /a 0 1", "yes"), ("settle", "yes"), ("pledge 2", "1"))
        before, writes = state_of(self.keeper), self.disk.writes
        for place in PATH_PLACES:
            for word in ODD_PATHS:
                self.lines((place.format(word), f"no BadPath {word}"))
                self.undone(1, f"BadPath {word}" if not place.startswith("settle") else "NotHere",
                            ["fold /b", place.format(word), "left"])
        self.assertEqual((state_of(self.keeper), self.disk.writes), (before, writes))

    def test_the_deed_says_which_of_two_odd_paths_is_told(self):
        self.lines(
            ("make /a 0", "yes"), ("twin / /\n", "no NoFile /"), ("twin /no /\n", "no NoFile /no"),
            ("twin /\t /\n", "no BadPath /\t"), ("move / /\n", "no NoFile /"), ("move /\t /\n", "no BadPath /\t"),
            ("make /b\n 99", "no BadPath /b\n"), ("write /a\t 99 5", "no BadPath /a\t"),
        )

    def test_gone(self):
        self.disk.cut()
        for text in ("twin / /\n", "fold /b\t", "charge /\n", "settle /a\n"):
            self.lines((text, "no Gone"))
        for text in ("left", "files", "settle", "settle /a", "make / 99", "drop //", "tick 1", "charge 99", "release 1",
                     "read /a 99 99", "pledge 0", "limit 99 - -", "draw 1 /a 0 1"):
            self.lines((text, "no Gone"))
        for text in NO_LINES:
            self.lines((text, "no BadLine"))

    def test_cut_goes_through(self):
        self.lines(("make /a 0", "yes"), ("write /a 0 1", "yes"))
        self.disk.fuse(0)
        with self.assertRaises(Cut):
            self.desk.line("settle")
        self.lines(("left", "no Gone"))


class TogetherTest(DeskCase):
    def test_all_are_done(self):
        told = self.desk.together(["make /a 1", "write /a 0 4 5", "read /a 0 3", "left", "files", "read /a 0 0", "pledge 2"])
        self.assertEqual(told, ["yes", "yes", "4 5 0", "28", "/a", "none", "1"])
        self.assertEqual((self.keeper.read("/a", 0, 2), self.keeper.pledges()), ([4, 5], [(1, 2)]))

    def test_no_lines(self):
        told = self.desk.together([])
        self.assertEqual(told, [])
        told.append("x")
        self.assertEqual(self.desk.together([]), [])

    def test_at_the_first_refused_one_all_is_as_before(self):
        self.lines(("make /a 1", "yes"), ("write /a 0 4 5", "yes"), ("pledge 2", "1"))
        good = ["write /a 0 9", "hole /a 1 1", "fold /d", "move /a /d/a", "tick 3", "limit 1 - 1", "pledge 4", "part 1 1",
                "release 1", "make /b 2", "drop /b", "give /d/a 3"]
        for at in range(len(good) + 1):
            self.undone(at, "NoFile /no", good[:at] + ["drop /no"] + good[at:] + ["drop /no", "no line"])
        self.assertEqual(self.desk.together(good)[6:9], ["2", "3", "1"])

    def test_each_kind_of_refusal(self):
        self.undone(0, "BadLine", ["no line"])
        self.undone(1, "BadLine", ["make /a 1", "left\n"])
        self.undone(1, "Taken /a", ["make /a 1", "make /a 1"])
        self.undone(0, "NoPledge 1", ["release 1"])
        self.undone(0, "NoFolder /d", ["make /d/a 1"])
        self.undone(1, "NoRoom 31 30 False", ["make /a 1", "pledge 31"])
        self.undone(2, "OverLimit 1 1 0", ["make /a 1", "limit 1 - 0", "write /a 0 1", "left"])

    def test_settling_lines_are_not_here(self):
        self.lines(("make /a 1", "yes"), ("write /a 0 1", "yes"))
        self.undone(0, "NotHere", ["settle"])
        self.undone(1, "NotHere", ["write /a 0 7", "settle /a", "left"])
        self.undone(0, "NotHere", ["settle /no"])
        self.undone(0, "NotHere", ["settle //"])
        self.undone(0, "BadLine", ["settle a"])
        self.undone(0, "BadLine", ["settle /a /b"])

    def test_the_desk_goes_on_as_ever(self):
        self.undone(1, "BadLine", ["make /a 1", "x"])
        self.lines(("make /a 1", "yes"), ("write /a 0 1", "yes"))
        self.undone(1, "NotHere", ["write /a 0 2", "settle"])
        self.lines(("settle", "yes"), ("read /a 0 1", "1"), ("pledge 1", "1"))
        self.undone(2, "NoPledge 9", ["pledge 1", "pledge 1", "release 9"])
        self.assertEqual(self.desk.together(["pledge 1", "left"]), ["2", "27"])
        self.lines(("settle /a", "yes"))
        self.assertEqual(Keeper(self.disk).read("/a", 0), [1])

    def test_answers_of_an_undone_beginning_are_not_told_later(self):
        self.undone(1, "BadLine", ["make /a 1", "x"])
        self.assertEqual(self.desk.together(["make /a 1"]), ["yes"])

    def test_gone_ahead_of_the_first_line(self):
        self.disk.cut()
        for lines in ([], ["left"], ["no line"], ["settle"]):
            with self.assertRaises(Gone):
                self.desk.together(lines)

    def test_cut_goes_through(self):
        """No line among several writes on the disk; the keeper of this desk is one whose disk is cut while it asks."""
        class CutKeeper(Keeper):
            def left(self):
                self.disk.fuse(0)
                self.disk.barrier()

        desk = Desk(CutKeeper(Disk(9)))
        with self.assertRaises(Cut):
            desk.together(["make /a 1", "left"])
        with self.assertRaises(Gone):
            desk.together([])

    def test_two_desks(self):
        other = Desk(Keeper(Disk(9)))
        self.desk.together(["make /a 1", "pledge 2"])
        self.assertEqual((other.line("files"), other.line("left"), other.line("pledge 1")), ("none", "9", "1"))


def line_of(deed, things, named):
    """A deed as a line, or None where there is no such line."""
    words = []
    for thing in things:
        words += thing if isinstance(thing, list) else [thing]
    if deed == "limit":
        words += ["-" if named[name] is None else named[name] for name in ("soft", "hard")]
    elif deed == "make":
        words.append(named["owner"])
    elif deed == "write" and "by" in named:
        deed, words = "draw", [named["by"], *words]
    elif named:
        return None
    return " ".join([deed, *map(str, words)])


def plain_answer(plain, deed, things, named, line):
    for word in line.split(" ")[1:]:
        if word == "" or word == "a" or word.startswith("-") and word != "-":
            return "no BadLine"
    if deed == "write" and not things[2]:
        return "no BadLine"
    try:
        told = plain.do(deed, *things, **named)
    except Refused as e:
        return "no " + e.text()
    return "yes" if told is None else str(told)


class DrawnDeskTest(unittest.TestCase):
    def test_drawn(self):
        for seed in range(30):
            chance = random.Random(seed)
            plain, keeper = Plain(40), Keeper(Disk(40))
            desk = Desk(keeper)
            begin(self, chance, keeper, plain)
            for at in range(80):
                deed, things, named = draw_deed(chance, plain)
                if deed == "limit" and isinstance(things[0], str) and not things[0].startswith("/"):
                    continue
                line = line_of(deed, things, named)
                if line is not None:
                    answer = plain_answer(plain, deed, things, named, line)
                    self.assertEqual((line, desk.line(line)), (line, answer))
                    self.assertEqual(state_of(keeper), plain.state())

    def test_together_drawn(self):
        done = undone = 0
        for seed in range(60):
            chance = random.Random(seed)
            plain, keeper = Plain(40), Keeper(Disk(40))
            begin(self, chance, keeper, plain)
            for at in range(12):
                lines, answers, trial, why = [], [], plain.clone(), None
                for step in range(chance.randrange(5)):
                    deed, things, named = draw_deed(chance, trial)
                    line = line_of(deed, things, named)
                    if line is None or deed == "settle" or deed == "limit" and isinstance(things[0], str):
                        continue
                    lines.append(line)
                    if why is None:
                        answer = plain_answer(trial, deed, things, named, line)
                        if answer.startswith("no "):
                            why = (len(lines) - 1, answer[3:])
                        answers.append(answer)
                if why is None:
                    self.assertEqual(Desk(keeper).together(lines), answers)
                    plain, done = trial, done + 1
                else:
                    with self.assertRaises(Undone) as caught:
                        Desk(keeper).together(lines)
                    self.assertEqual((caught.exception.at, caught.exception.why), why)
                    undone += 1
                self.assertEqual(state_of(keeper), plain.state())
        self.assertGreater(min(done, undone), 50)


if __name__ == "__main__":
    unittest.main()
