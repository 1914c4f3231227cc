"""The files of the package keep to what a short script can see of LANGUAGE.md."""

import pathlib
import unittest

from language_rules import complaints

PACKAGE = pathlib.Path(__file__).resolve().parent.parent / "tokenlanes"

WRONG = [
    ("L2", "from os import path\n"),
    ("L2", "from .boards import Board\n"),
    ("L2", "from tokenlanes.boards import *\n"),
    ("L2", "from tokenlanes.nowhere import Board\n"),
    ("L2", "LIMIT = 3\n\nfrom math import gcd\n"),
    ("L2", "from tokenlanes.boards import MAX\n"),
    ("L16", "import math\n"),
    ("L16", "from tokenlanes.sample import low\n\n\ndef low():\n    return 1\n"),
    ("L3", "LIMIT = len('ab')\n"),
    ("L3", "if True:\n    LIMIT = 3\n"),
    ("L3", "LOW = HIGH = 3\n"),
    ("L4", "def mark(f):\n    return f\n\n\n@mark\ndef low():\n    return 1\n"),
    ("L5", "class Box:\n    def __hash__(self):\n        return 1\n"),
    ("L5", "def mark(c):\n    return c\n\n\n@mark\nclass Box:\n    pass\n"),
    ("L6", "async def low():\n    return 1\n"),
    ("L7", "HALF = 0.5\n"),
    ("L7", "def half(n):\n    return n / 2\n"),
    ("L7", "def halves(xs):\n    return (x // 2 for x in xs)\n"),
    ("L8", "def low(x):\n    return hash(x)\n"),
    ("L8", "def low(x):\n    print(x)\n"),
    ("L10", "def low():\n" + "    pass\n" * 40),
    ("L10", "LIMIT = 3\n" * 400),
    ("L10", "LIMIT = 3" + " " * 110 + "# ab\n"),
    ("L12", "def low(__x):\n    return 1\n"),
    ("L12", "def low():\n    caf\u00e9 = 1\n    return caf\u00e9\n"),
    ("L14", "LIMIT = 3  # \u20ac\n"),
    ("L14", "def low():\n\treturn 1\n"),
    ("L15", "LIMIT = 3\nLIMIT = 4\n"),
    ("L15", "def low(min):\n    return min\n"),
    ("L15", "def low():\n    for list in [1]:\n        pass\n"),
    ("L15", "def low():\n    class Box:\n        pass\n    return Box()\n"),
    ("L17", "def low(box):\n    return box.elements\n"),
    ("L17", "def low(x):\n    return eval(x)\n"),
    ("L19", "def low():\n    try:\n        return 1\n    except:\n        return 2\n"),
    ("L19", "def low():\n    try:\n        return 1\n    except Exception:\n        return 2\n"),
    ("L19", "def low():\n    raise wrong\n"),
    ("L20", "def low(x, y):\n    return x is y\n"),
    ("L23", "def low():\n    yield 1\n\n\ndef high():\n    return low()\n"),
    ("L22", "def low(xs):\n    return sum(xs, key=1)\n"),
    ("L22", "def low(n):\n    return int(n, base=3)\n"),
    ("L23", "def low(xs):\n    return zip(xs, xs)\n"),
    ("L23", "def low(xs):\n    return len(reversed(xs))\n"),
    ("L23", "def low(xs):\n    return [1, range(3)]\n"),
    ("L23", "def low(xs):\n    for x in xs:\n        xs.append(x)\n"),
    ("L23", "def low(xs):\n    for at, x in enumerate(xs):\n        xs[at] = x + 1\n"),
    ("L23", "def low(d):\n    for k, x in d.items():\n        del d[k]\n"),
    ("L23", "def low(box):\n    for x in box.rows:\n        if x > 1:\n            box.rows.pop()\n"),
    ("L24", "def low(xs):\n    return [x for x in set(xs)]\n"),
    ("L24", "def low(xs):\n    return set(xs)\n"),
    ("L24", "def low(xs):\n    return max({x for x in xs})\n"),
    ("L25", "def low(x):\n    return x.isidentical()\n"),
    ("L27", "def low(n):\n    return 2 ** (n + 1)\n"),
    ("L27", "NAME = 'a%b'\n"),
    ("L27", "NAME = 'a\\x41'\n"),
    ("L28", "class Box:\n    def __eq__(self, other):\n        return True\n"),
    ("L28", "class Box:\n    def __len__(self):\n        return self.n\n"),
    ("L2", "from itertools import permutations\n\n\ndef low(xs):\n    ys = permutations(xs)\n    return list(ys)\n"),
    ("L2", "from itertools import product\n\n\ndef low(xs):\n    return max(product(xs), key=len)\n"),
    ("L3", "def low():\n    return 1\n\n\nROWS = {1: low}\n\n\ndef high(n):\n    return ROWS[n]()\n"),
    ("L4", "class Box:\n    def low(*rest):\n        return rest\n"),
    ("L4", "def low():\n    return lambda *rest: rest\n"),
    ("L5", "class Box:\n    @property\n    def low(self):\n        self.n = 1\n        return self.n\n"),
    ("L5", "class Box:\n    @property\n    def low(self):\n        self.rows.append(1)\n        return 1\n"),
    ("L5", "class Box:\n    @property\n    def low(self):\n        self.rows[0] = 1\n        return 1\n"),
    ("L28", "class Box:\n    def __len__(self):\n        self.rows.pop()\n        return len(self.rows)\n"),
    ("L15", "ROWS = [[1], [2]]\n"),
    ("L15", "ROWS = ([1], 2)\n"),
    ("L15", "ROWS = [1]\n\n\ndef low():\n    ROWS.append(1)\n"),
    ("L15", "ROWS = [1]\n\n\ndef low():\n    ROWS[0] = 1\n"),
    ("L15", "from tokenlanes.boards import Board\n\n\ndef low(Board):\n    return Board\n"),
    ("L15", "from tokenlanes.boards import Board\n\n\ndef low():\n    Board = 1\n    return Board\n"),
    ("L18", "def low(box):\n    return box.many\n"),
    ("L18", "class Box:\n    def many(self):\n        self.many = 1\n"),
    ("L18", "class Box:\n    def low(self):\n        return 1\n\n    def low(self):\n        return 2\n"),
    ("L22", "def low(n):\n    return n\n\n\ndef high():\n    return low()\n"),
    ("L22", "def low(n):\n    return n\n\n\ndef high():\n    return low(1, 2)\n"),
    ("L22", "def low(n, *, by=1):\n    return n\n\n\ndef high():\n    return low(1, to=2)\n"),
    ("L22", "class Box:\n    def __init__(self, n):\n        self.n = n\n\n\ndef high():\n    return Box()\n"),
    ("L22", "class Box:\n    def low(self, n):\n        return n\n\n\ndef high(box):\n    return box.low()\n"),
    ("L23", "def low():\n    yield 1\n\n\nclass Box:\n    def low(self):\n        return 1\n"),
    ("L23", "class Box:\n    @staticmethod\n    def low():\n        yield 1\n"),
    ("L23", "def low(n):\n    try:\n        yield n\n    except KeyError:\n        return\n"),
]


class Package(unittest.TestCase):
    def test_the_folder_contains_files_with_plain_names_only(self):
        for path in PACKAGE.iterdir():
            if path.name != "__pycache__":
                self.assertTrue(path.is_file() and path.suffix == ".py", path.name)

    def test_the_files_keep_to_the_rules(self):
        files = {path.stem: path.read_bytes().decode("ascii") for path in sorted(PACKAGE.glob("*.py"))}
        self.assertLess(3, len(files))
        self.assertEqual(complaints(files), [])


class Script(unittest.TestCase):
    def test_it_sees_what_is_wrong(self):
        for rule, text in WRONG:
            with self.subTest(rule=rule, text=text):
                found = complaints({"sample": text, "boards": "class Board:\n    pass\n"})
                self.assertIn(rule, " ".join(found).split())

    def test_it_sees_wrong_names_of_files(self):
        for name in ["Boards", "test", "test_boards", "law_boards", "len", "a-b"]:
            with self.subTest(name=name):
                self.assertEqual(complaints({name: ""}), [f"{name}:1 L14 the file's name"])

    def test_it_sees_files_that_import_from_each_other(self):
        low = "from tokenlanes.high import HIGH\n\nLOW = 1\n"
        high = "from tokenlanes.low import LOW\n\nHIGH = 2\n"
        found = complaints({"low": low, "high": high})
        self.assertEqual(len(found), 2)

    def test_it_sees_what_does_not_stand_beside_eq(self):
        box = "class Box:\n    def __eq__(self, other):\n        return isinstance(other, Box) and self.n == other.n\n"
        for rule, text in [
            ("L25", "def low(xs):\n    xs.sort()\n"), ("L7", "def low(xs):\n    return any(x > 1 for x in xs)\n"),
            ("L7", "def low(xs):\n    return max(x + 1 for x in xs)\n"),
        ]:
            with self.subTest(rule=rule, text=text):
                self.assertIn(rule, " ".join(complaints({"sample": text, "box": box})).split())
                self.assertEqual(complaints({"sample": text}), [])

    def test_it_lets_views_and_sets_stand_in_their_places(self):
        text = (
            "def low(xs, ys):\n"
            "    pairs = zip(xs, ys)\n"
            "    told = [x + y for x, y in pairs]\n"
            "    for at, (x, y) in enumerate(zip(xs, ys)):\n"
            "        told.append(x + y + at)\n"
            "    seen = set()\n"
            "    seen.add(3)\n"
            "    back = [at for at in reversed(range(3)) if at in {1, 2} and at in range(2)]\n"
            "    return sorted(seen), len(set(xs)), set(xs) == {x for x in ys}, sum(told, start=1), back\n"
        )
        self.assertEqual(complaints({"sample": text}), [])

    def test_it_lets_stars_tables_and_products_stand_in_their_places(self):
        text = (
            "from itertools import permutations\n\n\n"
            "def low(n):\n    return n\n\n\n"
            "ROWS = {\"a\": low, \"b\": low}\n\n\n"
            "class Box:\n"
            "    def __init__(self, rows, *, by=1):\n        self.rows = rows\n        self.by = by\n\n"
            "    @property\n    def many(self):\n        found = []\n        found.append(self.by)\n"
            "        return found\n\n"
            "    def walk(self):\n        for row in self.rows:\n            yield row\n\n"
            "    def take(self, *rest):\n        return list(rest)\n\n\n"
            "def high(word):\n"
            "    action = ROWS[word]\n"
            "    box = Box([1], by=2)\n"
            "    return action(1), [x for x in permutations([1, 2])], box.many, box.take(), box.take(1, 2), low(n=1)\n"
        )
        self.assertEqual(complaints({"sample": text}), [])

    def test_it_has_nothing_against_plain_code(self):
        text = "from tokenlanes.boards import Board\n\n\ndef many(board):\n    return [len(x) for x in board.rows()]\n"
        board = "class Board:\n    def rows(self):\n        return [\"ab\".upper()]\n"
        self.assertEqual(complaints({"boards": board, "sample": text}), [])


if __name__ == "__main__":
    unittest.main()
