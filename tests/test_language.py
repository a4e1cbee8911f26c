"""The package held against LANGUAGE.md, and the script that does so against code that breaks its rules."""

import pathlib
import subprocess
import sys
import unittest

from tests.language import faults

ROOT = pathlib.Path(__file__).resolve().parent.parent
PACKAGE = ROOT / "draftjoin"

BROKEN = (
    ("L10", "x = 1\n" * 401),
    ("L10", "x = '" + "a" * 120 + "'\n"),
    ("L14", "x = '\u00e9'\n"),
    ("L10", "if 1:\n\tx = 1\n"),
    ("L10", "def f():\n" + "    x = 1\n" * 40),
    ("L16", "import sys\n"),
    ("L2", "from os import path\n"),
    ("L2", "from .acts import x\n"),
    ("L2", "from draftjoin.acts import *\n"),
    ("L2", "from draftjoin.acts import x as y\n"),
    ("L2", "def f():\n    from draftjoin.acts import x\n"),
    ("L3", "x = len('a')\n"),
    ("L3", "print(1)\n"),
    ("L3", "for x in (1, 2):\n    y = x\n"),
    ("L15", "x = [[1]]\n"),
    ("L15", "x = 1\nx = 2\n"),
    ("L4", "def f(*a):\n    pass\n"),
    ("L4", "def f(**a):\n    pass\n"),
    ("L4", "def f(*, a):\n    pass\n"),
    ("L21", "def f(a: int):\n    pass\n"),
    ("L5", "class A:\n    x = 1\n"),
    ("L6", "def f(x):\n    with x:\n        pass\n"),
    ("L6", "def f(x):\n    del x\n"),
    ("L6", "def f(x):\n    assert x\n"),
    ("L6", "def f():\n    a = b = 1\n"),
    ("L6", "def f():\n    yield 1\n"),
    ("L6", "def f(x):\n    for y in x:\n        pass\n    else:\n        pass\n"),
    ("L7", "def f():\n    return 1.5\n"),
    ("L7", "def f(x):\n    return x / 2\n"),
    ("L7", "def f():\n    return b'a'\n"),
    ("L7", "def f(x):\n    return {y for y in x}\n"),
    ("L7", "def f(x):\n    return any(y for y in x)\n"),
    ("L7", "def f(x):\n    return [*x]\n"),
    ("L7", "def f(x):\n    return [y for z in x for y in z]\n"),
    ("L8", "def f(x):\n    return map(f, x)\n"),
    ("L8", "def f(x):\n    print(x)\n"),
    ("L8", "def f(x):\n    return chr(x)\n"),
    ("L12", "def f(_a):\n    pass\n"),
    ("L15", "def f(next):\n    pass\n"),
    ("L17", "# of this type\n"),
    ("L17", "def f(x):\n    x.elements = 1\n"),
    ("L20", "def f(x, y):\n    return x is y\n"),
    ("L22", "def f(x):\n    x.y = len\n"),
    ("L23", "def f(x):\n    y = range(x)\n    return y\n"),
    ("L23", "def f(x):\n    for y in x:\n        x.append(y)\n"),
    ("L24", "def f(x):\n    y = set(x)\n    return y\n"),
    ("L25", "def f(x):\n    x.sort()\n"),
    ("L27", "x = 'a%b'\n"),
    ("L27", "def f(n):\n    return 2 ** n\n"),
    ("L26", "class A:\n    def encode(self):\n        pass\n"),
    ("L18", "class A:\n    def go(self):\n        pass\n\n\nclass B:\n    def __init__(self):\n        self.go = 1\n"),
    ("L16", "from draftjoin.sample import x\n"),
    ("L16", "from draftjoin.other import x\n"),
)


class LanguageTest(unittest.TestCase):
    def test_only_plain_files_lie_in_the_package(self):
        for path in PACKAGE.iterdir():
            if path.name != "__pycache__":
                self.assertTrue(path.is_file() and path.suffix == ".py", path.name)

    def test_the_package_keeps_to_the_rules(self):
        files = {path.name: path.read_text(encoding="utf-8") for path in PACKAGE.glob("*.py")}
        self.assertIn("house.py", files)
        self.assertEqual(faults(files, "draftjoin"), [])

    def test_broken_rules_are_found(self):
        for rule, text in BROKEN:
            with self.subTest(rule=rule, text=text[:60]):
                found = faults({"__init__.py": "", "sample.py": text}, "draftjoin")
                self.assertTrue([fault for fault in found if rule in fault.replace(":", " ").split()], found)

    def test_wrong_files_are_found(self):
        for name in ("Big.py", "test_x.py", "tests.py", "len.py", "enum.py", "a-b.py", "_a.py"):
            self.assertTrue(faults({"__init__.py": "", name: ""}, "draftjoin"), name)
        self.assertTrue(faults({"a.py": ""}, "draftjoin"))
        circle = {"__init__.py": "", "a.py": "from draftjoin.b import y\n\nx = 1\n"}
        circle["b.py"] = "from draftjoin.a import x\n\ny = 1\n"
        self.assertTrue(faults(circle, "draftjoin"))

    def test_it_prints_reads_and_imports_nothing(self):
        words = "import sys; from draftjoin.house import answers; seen = set(sys.modules)\n"
        words += "answers([8, 10, 18, 0, 19, 20]); new = set(sys.modules) - seen; sys.exit(1 if new else 0)"
        done = subprocess.run([sys.executable, "-c", words], cwd=ROOT, capture_output=True, stdin=subprocess.DEVNULL)
        self.assertEqual((done.returncode, done.stdout, done.stderr), (0, b"", b""))
