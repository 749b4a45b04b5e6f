"""The rules of LANGUAGE.md, as far as they can be seen by reading the files of the package."""

import pathlib
import unittest

from reading import problems

TOP = pathlib.Path(__file__).resolve().parent.parent

GOOD = '''"""Boxes."""

from askable.two import check, steps

LIMIT = 3
WORDS = ("a", "b", ("c", -1))


class Wrong(ValueError):
    """An error."""


class Odd(IndexError):
    """An error that keeps a value."""

    def __init__(self, value):
        self.value = value


class Box:
    """A box."""

    def __init__(self, size, *rows):
        check(size)
        self._size = size
        self._rows = tuple(sorted(set(rows)))

    @classmethod
    def of(cls, size, rows):
        return cls(size, *rows)

    @property
    def rows(self):
        return self._rows

    def with_row(self, row):
        box = Box.of(self._size, self._rows)
        box._size = 4
        if row in box or not isinstance(row, (tuple, str)):
            raise Wrong("a row")
        return box

    def __or__(self, other):
        rows = self._rows + other.rows
        return Box(self._size, *rows)

    def __getitem__(self, at):
        if at is None:
            raise Odd(at)
        return self._rows[at]

    def __iter__(self):
        return iter(self._rows)

    def __len__(self):
        return len(self._rows)

    def __eq__(self, other):
        return isinstance(other, Box) and self._rows == other._rows

    def __call__(self, row):
        self._last = row
        return row in self._rows

    def __str__(self):
        return f"box of {len(self._rows)} rows"

    def __enter__(self):
        self._kept = self._size
        return self

    def __exit__(self, kind, value, trace):
        self._size = self._kept


class Still:
    """Boxes under numbers."""

    def __getitem__(self, at):
        return at

    def __iter__(self):
        raise TypeError("not iterated over")

    def put(self, at, *, by=1):
        with Box(at) as one:
            return one.with_row(by)


def many(box):
    seen = set()
    found = []
    for at, row in enumerate(box):
        if row not in seen:
            seen.add(row)
            found.append({at: row})
    told = [step for step in steps(LIMIT)]
    words = {word: True for word in WORDS if len(set(word) & {"a"}) == 0}
    return found, told, words, max([1, 2], default=0), {**words, "b": 2}


TABLE = {"many": many, "few": (1, 2)}


def done(word, box):
    action = TABLE[word]
    try:
        return action(box)
    except Wrong:
        return list(reversed(list(box)))
'''
TWO = '''"""Steps."""


def check(size):
    """Raise an error if it is too small."""
    if size < 0:
        raise ValueError("too small")


def steps(limit):
    for step in range(limit):
        yield step
    for _ in range(2):
        yield 1
'''
GOOD_TEXTS = {"askable/__init__.py": '"""All."""\n', "askable/one.py": GOOD, "askable/two.py": TWO}

# The rule, and rows that break it behind the good file.
BROKEN_ROWS = [
    ("L2", "import os"), ("L2", "from os import path"), ("L2", "from .two import check"), ("L2", "from askable.two import *"),
    ("L2", "from askable.three import three"), ("L16", "from askable.two import check as other"),
    ("L16", "from askable.two import nothing"), ("L2", "from itertools import product"), ("L6", "import askable.two"),
    ("L3", "ROWS = []"), ("L3", "ROWS = {\"a\": []}"), ("L3", "ROWS = {\"a\": later}\n\n\ndef later():\n    return 1"),
    ("L3", "def one(x):\n    return TABLE[x](x)"), ("L15", "def one():\n    return TABLE"), ("L15", "def one():\n    TABLE[1] = 2"),
    ("L15", "def one():\n    TABLE.clear()"), ("L15", "def one():\n    return many(TABLE)"), ("L3", "ONE, TWO = 1, 2"), ("L3", "many(1)"), ("L3", "for row in WORDS:\n    pass"),
    ("L3", "if LIMIT:\n    pass"), ("L15", "LIMIT = 4"), ("L15", "def many(box):\n    return box"), ("L3", "HALF = LIMIT // 2"),
    ("L4", "@check\ndef one():\n    pass"), ("L4", "def one():\n    def two():\n        pass\n    return two()"),
    ("L4", "def one(x=[]):\n    return x"), ("L4", "def one(x, /):\n    return x"), ("L6", "def one():\n    return lambda x: x"),
    ("L5", "@check\nclass One:\n    pass"), ("L5", "class One:\n    SIZE = 1"), ("L5", "class One(Two):\n    pass"),
    ("L5", "class One(Box, Odd):\n    pass"), ("L5", "class One:\n    def __hash__(self):\n        return 1"),
    ("L5", "class One:\n    def __lt__(self, other):\n        return True"),
    ("L5", "class One:\n    def __iter__(self):\n        for row in (1, 2):\n            yield row"),
    ("L5", "class One:\n    def __iter__(self):\n        return iter(self.told())\n\n    def told(self):\n        return ()"),
    ("L5", "class One:\n    def __getitem__(self, at):\n        return at"),
    ("L5", "class One:\n    def __or__(self, more):\n        return more"),
    ("L5", "class One:\n    def __or__(self, other):\n        self.last = other\n        return other"),
    ("L5", "class One:\n    def __and__(self, other):\n        other.append(1)\n        return other"),
    ("L5", "class One:\n    @property\n    def size(self):\n        self._size = 1\n        return 1"),
    ("L5", "class One:\n    @property\n    def size(self):\n        return put([])\n\n\ndef put(xs):\n    xs.append(1)\n    return xs"),
    ("L5", "class One:\n    @property\n    def size(self, by):\n        return by"),
    ("L5", "class One:\n    @property\n    def title(self):\n        return 1"),
    ("L5", "class One(ValueError):\n    def __call__(self, row):\n        return row"),
    ("L4", "class One:\n    def __call__(self, *told):\n        return told"),
    ("L5", "class One:\n    def __call__(self, *, row):\n        return row"),
    ("L5", "class One:\n    def __contains__(self, x):\n        return told(x)\n\n\ndef told(box):\n    return box(1)"),
    ("L23", "def one(xs):\n    return [x for x in steps(len(xs))]"), ("L23", "def one(xs):\n    return list(steps(limit=1))"),
    ("L5", "class One:\n    def __init__(self):\n        self.rows = 1"),
    ("L5", "def one(box):\n    return box.__len__()"), ("L5", "class One:\n    __slots__ = ()"),
    ("L6", "def one():\n    global LIMIT"), ("L6", "async def one():\n    pass"), ("L6", "def one(x):\n    with x[0]:\n        pass"),
    ("L6", "def one(x):\n    with x as x[0]:\n        pass"),
    ("L19", "def one(x):\n    try:\n        return x\n    except KeyError:\n        return 1"),
    ("L19", "def one(x):\n    try:\n        return x\n    except (Wrong, Odd):\n        return 1"),
    ("L19", "def one(x):\n    try:\n        return x\n    except Wrong as e:\n        return 1"),
    ("L19", "def one(x):\n    try:\n        return x\n    finally:\n        check(x)"),
    ("L19", "def one(x):\n    try:\n        return x\n    except:\n        return 1"),
    ("L23", "def one(x):\n    with x:\n        yield 1"), ("L23", "def one(x):\n    try:\n        yield 1\n    except Wrong:\n        pass"),
    ("L6", "class One:\n    def __exit__(self, kind, value, trace):\n        self.many()\n\n    def many(self):\n        pass"),
    ("L6", "class One:\n    def __exit__(self, kind, value, trace):\n        self.size = len(self.told)"),
    ("L6", "class One:\n    def __exit__(self, kind, value, trace):\n        self.told.size = self.told"),
    ("L6", "class One:\n    def __exit__(self):\n        pass"), ("L6", "class One:\n    def __enter__(self, by):\n        pass"),
    ("L6", "class One(ValueError):\n    def __enter__(self):\n        return self"),
    ("L5", "class One:\n    def __iter__(self):\n        raise Wrong(\"a\")"), ("L5", "def one(xs):\n    return list(reversed(xs))"),
    ("L28", "class One:\n    def __eq__(self, other):\n        a = other\n        return a == 1"),
    ("L4", "class One:\n    def append(self, *, by):\n        return by"),
    ("L6", "def one(x):\n    x\n"),
    ("L6", "def one(x):\n    match x:\n        case 1:\n            return 2"), ("L6", "def one(x):\n    assert (x, 1)"),
    ("L7", "def one():\n    return 1.5"), ("L7", "def one(x):\n    return x / 2"), ("L7", "def one(xs):\n    return any(x for x in xs)"),
    ("L7", "def one():\n    return b'a'"), ("L7", "WORD = [1 for _ in (1, 2)]"), ("L7", "def one(x):\n    return x @ x"),
    ("L7", "def one(box):\n    return Box(1, *box.rows)"), ("L7", "def one(xs):\n    return Box(*sorted(xs))"),
    ("L8", "def one(x):\n    return hash(x)"), ("L8", "def one(x):\n    return print(x)"), ("L8", "def one(sum):\n    return sum"),
    ("L8", "def one():\n    max = 1\n    return max"), ("L8", "def one(xs):\n    return iter(xs)"), ("L8", "def one(x):\n    return x.__a"),
    ("L8", "def one(x):\n    return open(x)"), ("L10", "LONG = \"" + "a" * 120 + "\""),
    ("L10", "def one():\n" + "    check(1)\n" * 40), ("L10", "# a\n" * 400), ("L14", "# \u00e9"), ("L14", "# \t"),
    ("L12", "def one():\n    _enum_x = 1\n    return _enum_x"), ("L12", "def one(_):\n    return _"), ("L12", "# _wall"),
    ("L12", "def one(_record):\n    return 1"), ("L8", "def one(__x):\n    return 1"), ("L8", "def one(x_, __):\n    return 1"),
    ("L13", "def one(x):\n    return x in {1, 2, 3}"), ("L15", "def one(Box):\n    return 1"), ("L15", "def one(check):\n    return 1"),
    ("L15", "def one():\n    class Two:\n        pass"), ("L15", "def one(id):\n    return id"),
    ("L17", "def one(type):\n    return 1"), ("L17", "def one():\n    return \"an enum\""), ("L17", "# (type)"),
    ("L17", "def one(open):\n    return 1"), ("L17", "def one(x):\n    return x.register"), ("L17", "def one(f_back):\n    return 1"),
    ("L17", "def one(vars):\n    return 1"), ("L17", "# Meta"), ("L17", "def one():\n    return \"my_dataclass\""),
    ("L18", "def one():\n    return [Box]"), ("L18", "def one(x):\n    return isinstance(Box, x)"), ("L18", "def one():\n    Box.size = 1"),
    ("L18", "def one():\n    LIMIT.size = 1"), ("L18", "def one(box):\n    return box.nothing"),
    ("L18", "class One:\n    def put(self):\n        pass\n\n    def put(self):\n        pass"),
    ("L18", "class One:\n    def size(self):\n        self.size = 1"), ("L19", "def one(x):\n    raise x"),
    ("L19", "def one(x):\n    raise Wrong"), ("L19", "def one(x):\n    raise Wrong(\"a\") from None"),
    ("L19", "def one(x):\n    raise Wrong(\"a\") from x"), ("L20", "def one(x):\n    return x is 1"),
    ("L20", "def one(x, y):\n    return x is not y"), ("L21", "def one(x: int):\n    return x"), ("L21", "def one() -> int:\n    return 1"),
    ("L6", "def one():\n    x: int = 1\n    return x"), ("L22", "def one(xs):\n    return sorted(xs, 1)"),
    ("L22", "def one(xs):\n    return len(xs, xs)"), ("L22", "def one(xs):\n    return list(xs, start=1)"),
    ("L22", "def one(x):\n    return isinstance(x, object)"), ("L22", "def one():\n    return [len]"), ("L22", "def one():\n    return many"),
    ("L22", "def one():\n    return check(1, 2)"), ("L22", "def one():\n    return check()"), ("L22", "def one():\n    return check(by=1)"),
    ("L22", "def one():\n    return Box()"), ("L22", "def one(x):\n    raise Wrong(x)"), ("L22", "def one(x):\n    raise Wrong(why=\"a\")"),
    ("L23", "def one(xs):\n    return zip(xs, xs)"), ("L23", "def one(d):\n    return d.items()"), ("L23", "def one(d):\n    x = range(d)\n    return x"),
    ("L23", "def one(d):\n    return len(zip(d, d))"), ("L23", "def one():\n    return steps(1)"), ("L23", "def one():\n    return 1 in steps(1)"),
    ("L23", "def one():\n    x = steps(1)\n    return list(x)"), ("L23", "def one(xs):\n    for x in xs:\n        xs.append(x)"),
    ("L23", "def one(xs):\n    for x in xs:\n        xs[x] = 1"), ("L23", "def one(xs):\n    for x in xs.items():\n        xs.pop(x)"),
    ("L23", "class One:\n    def steps(self):\n        return 1"), ("L23", "def one(x):\n    y = yield x\n    return y"),
    ("L23", "def one(x):\n    yield x\n    return 1"), ("L24", "def one(xs):\n    for x in set(xs):\n        check(x)"),
    ("L24", "def one(xs):\n    return [x for x in {1, 2}]"), ("L24", "def one(xs):\n    return set(xs)"), ("L24", "def one(xs):\n    return list(set(xs))"),
    ("L24", "def one(xs):\n    seen = set(xs)\n    return seen"), ("L24", "def one(xs):\n    seen = set(xs)\n    return list(seen)"),
    ("L24", "def one(xs):\n    seen = set()\n    seen = set(xs)\n    return len(seen)"), ("L24", "def one(d):\n    return len(set(d.values()))"),
    ("L24", "def one(xs):\n    seen = set()\n    seen.update(xs)\n    return len(seen)"), ("L25", "def one(x):\n    return x.encode()"),
    ("L25", "def one(xs):\n    xs.sort()"), ("L25", "def one(x):\n    return x.split(sep=1)"), ("L25", "def one(d):\n    return d.items(1)"),
    ("L25", "def one(x):\n    return x.format(1)"), ("L26", "class One:\n    def decode(self):\n        return 1"),
    ("L26", "class One:\n    def __init__(self):\n        self.items = 1"), ("L26", "class One:\n    def __init__(self):\n        self.real = 1"),
    ("L27", "def one(n):\n    return 2 ** n"), ("L27", "WORD = \"5%\""), ("L27", "WORD = \"\\t\\r\""), ("L27", "WORD = \"a._\""),
    ("L27", "WORD = \"__odd__\""), ("L27", "WORD = \"a.__x\""), ("L27", "WORD = r\"a\""), ("L27", "WORD = \"f_code\""),
    ("L28", "class One:\n    def __init__(self):\n        return None"), ("L28", "class One:\n    def __len__(self):\n        return 1 + 1"),
    ("L28", "class One:\n    def __str__(self):\n        return self"), ("L28", "def __len__(self):\n    return 1"),
    ("L28", "class One:\n    def __str__(self):\n        if self:\n            return str(1)"),
]
BROKEN_FILES = [
    ("L1", {"askable/notes.txt": ""}), ("L1", {"askable/Three.py": ""}), ("L1", {"askable/a-b.py": ""}),
    ("L14", {"askable/more/three.py": ""}), ("L14", {"askable/two/__init__.py": ""}), ("L14", {"askable/test_it.py": ""}),
    ("L14", {"askable/more/__init__.py": "", "askable/more/__main__.py": ""}), ("L14", {"askable/len.py": ""}),
    ("L14", {f"askable/x{at}.py": "" for at in range(100)}), ("L14", {"askable/law_x.py": ""}), ("L14", {"askable/math.py": ""}),
    ("L16", {"askable/two.py": "from askable.one import many\n" + TWO + "    many(1)\n"}),
    ("L16", {"askable/four.py": "from askable.five import five\n\n\ndef four():\n    return five()\n",
             "askable/five.py": "from askable.four import four\n\n\ndef five():\n    return four()\n"}),
]


def package_texts():
    texts = {}
    for path in sorted(TOP.joinpath("askable").rglob("*")):
        if path.is_file() and "__pycache__" not in path.parts:
            texts[path.relative_to(TOP).as_posix()] = path.read_text() if path.suffix == ".py" else ""
    return texts


class PackageTest(unittest.TestCase):
    def test_the_package_keeps_the_rules(self):
        texts = package_texts()
        self.assertIn("askable/errors.py", texts)
        self.assertEqual(problems(texts), [])


class ReadingTest(unittest.TestCase):
    def test_good_files(self):
        self.assertEqual(problems(GOOD_TEXTS), [])

    def test_broken_rows(self):
        for rule, rows in BROKEN_ROWS:
            is_import = rows.startswith(("import", "from"))
            text = GOOD.replace("LIMIT = 3\n", rows + "\n\nLIMIT = 3\n", 1) if is_import else GOOD + "\n\n" + rows + "\n"
            with self.subTest(rule=rule, rows=rows):
                told = problems({**GOOD_TEXTS, "askable/one.py": text})
                self.assertTrue(any(rule in line.split(":")[0].split(", ") for line in told), told)

    def test_broken_files(self):
        for rule, texts in BROKEN_FILES:
            with self.subTest(rule=rule, paths=list(texts)[:3]):
                told = problems({**GOOD_TEXTS, **texts})
                self.assertTrue(any(rule in line.split(":")[0].split(", ") for line in told), told)

    def test_an_import_that_does_not_stand_at_the_top(self):
        told = problems({**GOOD_TEXTS, "askable/three.py": "ONE = 1\nfrom askable.two import check\n\n\ndef one():\n    check(1)\n"})
        self.assertEqual([line.split(":")[0] for line in told], ["L2"])


if __name__ == "__main__":
    unittest.main()
