"""What ../shared/LANGUAGE.md says of the package's files and can be seen without running them."""

import ast
import inspect
import pathlib
import re
import unittest

import latestow
from latestow import maps, tree
from latestow.desk import Desk
from latestow.disk import Disk
from latestow.keeper import Keeper
from latestow.limits import Limits
from latestow.looker import look, mend
from latestow.papers import Census, adds_up, bears
from latestow.spans import Spans, stretches
from latestow.stow import placed

# What is walked on the spot and never kept (L23), and the calls within which it may stand.
WALKED = ("zip", "enumerate", "reversed", "range")
WALKED_METHODS = ("items", "keys", "values")
WALKERS = ("list", "tuple", "dict", "sorted", "sum", "any", "all", "enumerate", "zip", "bytes", "min", "max")
FOLDER = pathlib.Path(latestow.__file__).parent
BARRED = re.compile(
    r"\b(type|typing|typing_extensions|enum|Enum|IntEnum|StrEnum|Flag|IntFlag|Generic|Protocol|ABC|ABCMeta|namedtuple"
    r"|NamedTuple|TypedDict|TYPE_CHECKING|abstractmethod)\b|dataclass|overload|contextmanager"
)
# Each class with the methods that the interface lists for it.
TOLD = (
    (Spans, "__len__ __eq__ __repr__ __str__ blocks runs has more less pieces"),
    (Disk, "put barrier read addresses cut fuse"),
    (Limits, "rule note asks tick since now shown"),
    (Census, "__len__ __eq__ __str__"),
    (Keeper, "make fold drop write reserve hole shorten twin move give limit tick pledge part release settle mark back"
             " files folders owner_of read pages_of runs_of sheets_of charge_of left behind free pledges limits now"
             " census plan"),
    (Desk, "line together"),
)
PARAMETERS = (
    (stretches, "(blocks)"),
    (Spans, "(blocks=())"),
    (Spans.has, "(self, block)"),
    (Spans.more, "(self, blocks)"),
    (Spans.less, "(self, blocks)"),
    (Spans.pieces, "(self, many)"),
    (Disk, "(size)"),
    (Disk.put, "(self, address, row)"),
    (Disk.barrier, "(self)"),
    (Disk.read, "(self, address)"),
    (Disk.addresses, "(self)"),
    (Disk.cut, "(self, *, through=0)"),
    (Disk.fuse, "(self, many, *, through=0)"),
    (maps.worst, "(pages, *, node=3, sheet=6)"),
    (maps.charge, "(pages)"),
    (maps.runs_of, "(places)"),
    (maps.places_of, "(runs)"),
    (maps.packed, "(runs)"),
    (maps.unpacked, "(first, sheets)"),
    (tree.fits, "(path)"),
    (tree.parent, "(path)"),
    (tree.chain, "(path)"),
    (Limits, "(*, grace=5)"),
    (Limits.rule, "(self, whose, charge, *, soft=None, hard=None)"),
    (Limits.note, "(self, whose, charge)"),
    (Limits.asks, "(self, whose, was, will)"),
    (Limits.tick, "(self, many=1)"),
    (Limits.since, "(self, whose)"),
    (Limits.now, "(self)"),
    (Limits.shown, "(self)"),
    (placed, "(free, pages)"),
    (Census, "(size, held, put_by, pledged, spare)"),
    (adds_up, "(census)"),
    (bears, "(census, plan)"),
    (Keeper, "(disk, *, grace=5)"),
    (Keeper.make, "(self, path, *, owner=0)"),
    (Keeper.fold, "(self, path)"),
    (Keeper.drop, "(self, path)"),
    (Keeper.write, "(self, path, page, values, *, by=None)"),
    (Keeper.reserve, "(self, path, page, many, *, by=None)"),
    (Keeper.hole, "(self, path, page, many)"),
    (Keeper.shorten, "(self, path, pages)"),
    (Keeper.twin, "(self, path, to, *, owner=None, by=None)"),
    (Keeper.move, "(self, path, to)"),
    (Keeper.give, "(self, path, owner)"),
    (Keeper.limit, "(self, whose, *, soft=None, hard=None)"),
    (Keeper.tick, "(self, many=1)"),
    (Keeper.pledge, "(self, many)"),
    (Keeper.part, "(self, ticket, many)"),
    (Keeper.release, "(self, ticket)"),
    (Keeper.settle, "(self, path=None)"),
    (Keeper.mark, "(self)"),
    (Keeper.back, "(self, mark)"),
    (Keeper.files, "(self)"),
    (Keeper.folders, "(self)"),
    (Keeper.owner_of, "(self, path)"),
    (Keeper.read, "(self, path, page, many=1)"),
    (Keeper.pages_of, "(self, path)"),
    (Keeper.runs_of, "(self, path)"),
    (Keeper.sheets_of, "(self, path)"),
    (Keeper.charge_of, "(self, whose)"),
    (Keeper.left, "(self)"),
    (Keeper.behind, "(self)"),
    (Keeper.free, "(self)"),
    (Keeper.pledges, "(self)"),
    (Keeper.limits, "(self)"),
    (Keeper.now, "(self)"),
    (Keeper.census, "(self)"),
    (Keeper.plan, "(self)"),
    (look, "(disk)"),
    (mend, "(disk)"),
    (Desk, "(keeper)"),
    (Desk.line, "(self, text)"),
    (Desk.together, "(self, lines)"),
)


def files():
    return sorted(FOLDER.rglob("*.py"))


def is_walked(node):
    if not isinstance(node, ast.Call):
        return False
    if isinstance(node.func, ast.Attribute):
        return node.func.attr in WALKED_METHODS
    return isinstance(node.func, ast.Name) and node.func.id in WALKED


def walked_here(node):
    """What stands where it is walked on the spot: behind the `in` of a loop, or first in a call that walks it."""
    if isinstance(node, (ast.For, ast.comprehension)):
        return [node.iter]
    if not isinstance(node, ast.Call):
        return []
    if isinstance(node.func, ast.Name) and node.func.id in WALKERS:
        return node.args[:1] if len(node.args) == 1 or node.func.id not in ("min", "max") else []
    if isinstance(node.func, ast.Attribute) and node.func.attr == "join" and isinstance(node.func.value, ast.Constant):
        return node.args
    return []


def kept_rows(text):
    """The rows in which a range and the like is not walked on the spot."""
    nodes = list(ast.walk(ast.parse(text)))
    walked = [id(here) for node in nodes for here in walked_here(node)]
    return [node.lineno for node in nodes if is_walked(node) and id(node) not in walked]


class PackageTest(unittest.TestCase):
    def test_the_folder_holds_nothing_but_files_of_the_program(self):
        others = [p for p in FOLDER.rglob("*") if p.suffix != ".py" and "__pycache__" not in p.parts]
        self.assertEqual(others, [])

    def test_size_and_signs(self):
        for path in files():
            with self.subTest(path.name):
                text = path.read_bytes().decode("ascii")
                lines = text.split("\n")
                self.assertLessEqual(len(lines) - 1, 400)
                self.assertLessEqual(max(len(line) for line in lines), 120)
                self.assertEqual([sign for sign in text if sign != "\n" and not " " <= sign <= "~"], [])
                self.assertIsNone(BARRED.search(text))

    def test_functions_are_small(self):
        for path in files():
            for node in ast.walk(ast.parse(path.read_text())):
                if isinstance(node, ast.FunctionDef):
                    with self.subTest(path.name, function=node.name):
                        self.assertLessEqual(node.end_lineno - node.lineno + 1, 40)

    def test_imports_are_of_the_package(self):
        for path in files():
            for node in ast.walk(ast.parse(path.read_text())):
                self.assertNotIsInstance(node, ast.Import)
                if isinstance(node, ast.ImportFrom):
                    self.assertTrue(node.module.startswith("latestow."), path.name)

    def test_ranges_and_the_like_are_walked_on_the_spot(self):
        for path in files():
            with self.subTest(path.name):
                self.assertEqual(kept_rows(path.read_text()), [])

    def test_what_is_kept_is_found(self):
        good = ("for k in range(3): pass", "[k for k, v in d.items()]", "xs.extend(list(range(3)))", "max(d.values())",
                "','.join(d.keys())", "list(enumerate(zip(xs, ys)))", "{k for k in reversed(xs)}")
        bad = ("xs.extend(range(3))", "k = d.items()", "max(1, d.values())", "f(zip(xs, ys))", "s.join(d.keys())",
               "[range(3)]", "zip(xs, range(3))", "xs += enumerate(ys)", "x in d.values()")
        for text in good:
            self.assertEqual(kept_rows(text), [], text)
        for text in bad:
            self.assertIn(1, kept_rows(text), text)

    def test_no_name_is_a_method_and_an_attribute(self):
        methods, attributes = set(), set()
        for path in files():
            for node in ast.walk(ast.parse(path.read_text())):
                if isinstance(node, ast.ClassDef):
                    methods |= {row.name for row in node.body if isinstance(row, ast.FunctionDef)}
                if isinstance(node, ast.Attribute) and isinstance(node.ctx, ast.Store):
                    attributes.add(node.attr)
        self.assertEqual(methods & attributes, set())

    def test_told_methods_stand_in_the_class_itself(self):
        for owner, names in TOLD:
            for name in names.split():
                with self.subTest(owner.__name__, method=name):
                    self.assertIn(name, vars(owner))

    def test_told_parameters_have_their_names(self):
        for function, told in PARAMETERS:
            with self.subTest(function.__qualname__):
                self.assertEqual(str(inspect.signature(function)), told)


if __name__ == "__main__":
    unittest.main()
