"""The package's files keep to the rules of LANGUAGE.md, as far as a simple check can tell."""

import pathlib
import unittest

import netfinder
from tests.language import PACKAGE, bad_file_name, defined_in, drawn_from, faults_of

FOLDER = pathlib.Path(netfinder.__file__).resolve().parent


def sources():
    """The text of each file of the package, by its module's name."""
    texts = {}
    for path in sorted(FOLDER.glob("*.py")):
        with open(path, encoding="utf-8", newline="") as file:
            texts[PACKAGE + "." + path.stem] = file.read()
    return texts


class TestPackage(unittest.TestCase):
    def test_only_plain_python_files_lie_in_it(self):
        names = [path.name for path in FOLDER.iterdir() if path.name != "__pycache__"]
        self.assertIn("__init__.py", names)
        self.assertEqual([name for name in names if bad_file_name(name)], [])

    def test_no_file_has_a_fault(self):
        for module, source in sources().items():
            with self.subTest(module=module):
                self.assertEqual(faults_of(source), [])

    def test_names_are_drawn_from_the_file_that_defines_them(self):
        texts = sources()
        for module, source in texts.items():
            for drawn, name in drawn_from(source):
                with self.subTest(module=module, drawn=drawn, name=name):
                    self.assertIn(name, defined_in(texts[drawn]))

    def test_no_two_files_draw_from_one_another(self):
        left = {module: {drawn for drawn, name in drawn_from(source)} for module, source in sources().items()}
        while left:
            free = [module for module, drawn in left.items() if not drawn & set(left)]
            self.assertTrue(free, f"these draw from one another: {sorted(left)}")
            for module in free:
                left.pop(module)

    def test_init_binds_no_name_of_a_file(self):
        texts = sources()
        bound = defined_in(texts[PACKAGE + ".__init__"])
        bound += [name for drawn, name in drawn_from(texts[PACKAGE + ".__init__"])]
        self.assertEqual([name for name in bound if PACKAGE + "." + name in texts], [])


BAD = (
    ("L2", "from os import path\n"),
    ("L2", "from .errors import NoText\n"),
    ("L2", "from netfinder.errors import *\n"),
    ("L3", "if True:\n    pass\n"),
    ("L3", "import netfinder\n"),
    ("L4", "def f(*xs):\n    return xs\n"),
    ("L4", "def f(**xs):\n    return xs\n"),
    ("L4", "def f(*, x):\n    return x\n"),
    ("L4", "@f\ndef g():\n    return 1\n"),
    ("L5", "class A:\n    x = 1\n"),
    ("L5", "class A(B, C):\n    pass\n"),
    ("L6", "def f(x):\n    del x\n"),
    ("L6", "def f(x):\n    assert x\n"),
    ("L6", "def f():\n    x = y = 1\n"),
    ("L6", "def f(xs):\n    for x in xs:\n        pass\n    else:\n        pass\n"),
    ("L6", "def f():\n    with g():\n        pass\n"),
    ("L6", "def f():\n    try:\n        g()\n    finally:\n        g()\n"),
    ("L6", "def f():\n    global x\n"),
    ("L6", "def f():\n    x: int = 1\n"),
    ("L7", "def f(x):\n    return x / 2\n"),
    ("L7", "X = 1.5\n"),
    ("L7", "X = b'a'\n"),
    ("L7", "def f(xs):\n    return all(x for x in xs)\n"),
    ("L7", "def f(xs):\n    return {x for x in xs}\n"),
    ("L7", "def f(xs):\n    return {x: 1 for x in xs}\n"),
    ("L7", "def f(xs):\n    return [x for ys in xs for x in ys]\n"),
    ("L7", "def f(xs):\n    return g(*xs)\n"),
    ("L7", "def f(xs):\n    return f'{xs[0]}'\n"),
    ("L7", "def f(x):\n    if (y := x):\n        return y\n"),
    ("L8", "def f(xs):\n    return list(map(g, xs))\n"),
    ("L8", "def f(x):\n    print(x)\n"),
    ("L10", "X = '" + "a" * 120 + "'\n"),
    ("L10", "def f(x):\n" + "    x = 1\n" * 40),
    ("L10", "\n" * 400 + "X = 1\n"),
    ("L12", "def _f():\n    return 1\n"),
    ("L12", "def f(xs):\n    return [1 for _ in xs]\n"),
    ("L14", "def f():\n\treturn 1\n"),
    ("L14", "X = '\u00e9'\n"),
    ("L14", "X = 1\r\n"),
    ("L15", "X = 1\nX = 2\n"),
    ("L15", "def f(next):\n    return next\n"),
    ("L17", "# the type of it\n"),
    ("L17", "X = 'dataclasses'\n"),
    ("L17", "def f(x):\n    return getattr(x, 'a')\n"),
    ("L17", "def f(x):\n    return chr(x)\n"),
    ("L19", "def f():\n    try:\n        g()\n    except Exception:\n        return 1\n"),
    ("L20", "def f(x, y):\n    return x is y\n"),
    ("L21", "def f(x: int):\n    return x\n"),
    ("L22", "def f(x):\n    return int(x, base=2)\n"),
    ("L15", "from netfinder.lexis import words\n\n\ndef f(words):\n    return words\n"),
    ("L15", "from netfinder.lexis import words\n\n\ndef f(x):\n    words = x\n    return words\n"),
    ("L15", "from netfinder.lexis import words\n\n\ndef f(x):\n    return [1 for words in x]\n"),
    ("L15", "class A:\n    pass\n\n\ndef f(x):\n    for A in x:\n        pass\n"),
    ("L23", "def f(x):\n    y = zip(x, x)\n    return y\n"),
    ("L23", "def f(x):\n    return x.items()\n"),
    ("L23", "def f(x):\n    return zip(x, range(3))\n"),
    ("L23", "def f(x):\n    return max(range(x), 3)\n"),
    ("L23", "def f(x):\n    for y in x:\n        x.append(y)\n"),
    ("L23", "def f(x):\n    for k, y in enumerate(x):\n        x[k] = y\n"),
    ("L25", "def f(x):\n    return x.title()\n"),
    ("L25", "def f(x):\n    return x.format(1)\n"),
    ("L27", "X = '%s'\n"),
    ("L27", "def f(n):\n    return 2 ** n\n"),
)

GOOD = (
    "",
    '"""A file."""\n\nfrom netfinder.errors import NoText\n\nX = (1, "a", None)\n',
    "def f(x):\n    if not isinstance(x, str) or x is None:\n        raise NoText(f'no text: {x!r}')\n    return x\n",
    "def f(xs):\n    return max([x for x, y in zip(xs, xs[1:]) if x < y], default=0)\n",
    "class A:\n    def __init__(self, x):\n        self.x = x\n\n    def more(self):\n        return self.x + 2 ** 3\n",
    "class A(ValueError):\n    pass\n",
    "def f(x):\n    for y in list(range(3)):\n        x.append(max(zip(x, x)))\n    return sorted(x.items())\n",
    "def f(x):\n" + "    x = 1\n" * 39,
    "X = '" + "a" * 114 + "'\n",
    "\n" * 399 + "X = 1\n",
)


class TestTheCheckItself(unittest.TestCase):
    def test_it_finds_what_is_outside_the_rules(self):
        for rule, source in BAD:
            with self.subTest(rule=rule, source=source):
                self.assertIn(rule, [found for found, row in faults_of(source)])

    def test_it_passes_what_is_within_them(self):
        for source in GOOD:
            with self.subTest(source=source):
                self.assertEqual(faults_of(source), [])

    def test_file_names(self):
        for name in ("__init__.py", "charts.py", "above.py", "rows2.py"):
            with self.subTest(name=name):
                self.assertFalse(bad_file_name(name))
        for name in ("Charts.py", "test_charts.py", "tests.py", "sum.py", "enum.py", "_charts.py", "notes.md"):
            with self.subTest(name=name):
                self.assertTrue(bad_file_name(name))


if __name__ == "__main__":
    unittest.main()
