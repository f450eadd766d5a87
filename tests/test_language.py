"""The package keeps to ../shared/LANGUAGE.md, as far as tests.language sees it; and tests.language sees it."""

import pathlib
import unittest

from tests import language

FOLDER = pathlib.Path(__file__).parent.parent / "unwound"
HEAD = '"""A file."""\n\n\n'
BROKEN = {
    "L2": ("import heapq\n", "from os import path\n", "from .words import led\n", "from unwound.words import is_word as w\n",
           "def f():\n    return 1\n\n\nfrom unwound.words import is_word\n"),
    "L3": ("A = len((1, 2))\n", "A, B = 1, 2\n", "if 1:\n    A = 1\n", "for k in (1, 2):\n    pass\n"),
    "L4": ("@property\ndef f(x):\n    return x\n", "def f(x=[]):\n    return x\n"),
    "L6": ("def f():\n    global a\n", "async def f():\n    pass\n", "def f():\n    with g():\n        pass\n",
           "def f(x):\n    x + 1\n"),
    "L7": ("A = 1.5\n", "def f(x):\n    return x / 2\n", "def f(x):\n    return (y for y in x)\n", "def f():\n    yield 1\n"),
    "L8": ("def f(x):\n    return eval(x)\n", "def f(x):\n    return map(f, x)\n", "def f(x):\n    print(x)\n"),
    "L10": ("A = " + " + ".join(["1"] * 60) + "\n", "A = 0\n" * 400, "def f():\n" + "    x = 1\n" * 40),
    "L12": ("def __f():\n    pass\n", "def f(_cold):\n    pass\n", "class __A(ValueError):\n    pass\n"),
    "L14": ("A = '\u00e9'\n", "def f():\n\treturn 1\n", "# caf\u00e9\n"),
    "L15": ("def f(max):\n    pass\n", "def f():\n    list = 1\n", "def f(g):\n    pass\n\n\ndef g():\n    pass\n",
            "from unwound.words import is_word\n\n\ndef f(is_word):\n    pass\n", "def f():\n    pass\n\n\ndef f():\n    pass\n",
            "def f():\n    return [min for min in ()]\n", "def next():\n    pass\n"),
    "L16": ("from unwound.words import is_term\n", "from unwound.terms import is_word\n"),
    "L17": ("def f(open):\n    pass\n", "def f(x):\n    return x.mro\n", "A = 'type'\n", "def f(type):\n    pass\n"),
    "L18": ("class A:\n    def __init__(self):\n        self.one = 1\n\n    def one(self):\n        return 1\n",
            "def f(x):\n    x.one.two = 1\n"),
    "L19": ("def f():\n    raise ValueError\n", "def f():\n    try:\n        g()\n    except ValueError:\n        pass\n",
            "def f():\n    try:\n        g()\n    except:\n        pass\n"),
    "L20": ("def f(x, y):\n    return x is y\n", "def f(x):\n    return x is 3\n"),
    "L22": ("def f(x):\n    return sorted(x, cmp=1)\n", "def f(x):\n    return [len, x]\n"),
    "L23": ("def f(x):\n    return zip(x, x)\n", "def f(x):\n    y = x.items()\n", "def f(x):\n    for k in x:\n        x.append(k)\n",
            "def f(x):\n    for k, y in enumerate(x):\n        x[k] = 1\n"),
    "L24": ("def f(x):\n    for k in {1, 2}:\n        pass\n", "def f(x):\n    return set(x)\n",
            "def f(x):\n    y = set(x)\n    return y\n", "def f(x):\n    y = {k for k in x}\n    y = 1\n",
            "def f(x):\n    return list({k for k in x})\n"),
    "L25": ("def f(x):\n    x.sort(key=1)\n", "def f(x):\n    return x.intersection(x)\n", "def f(x):\n    return x.real\n"),
    "L26": ("class A:\n    def find(self):\n        return 1\n", "def f(x):\n    x.items = 1\n",
            "class A:\n    def __init__(self):\n        self.count = 1\n"),
    "L27": ("def f(x):\n    return x ** x\n", "A = '5 %'\n", "A = '._'\n"),
}


def package():
    """The texts of the files of the package."""
    return {path.name: path.read_text(encoding="utf-8") for path in sorted(FOLDER.glob("*.py"))}


class PackageTest(unittest.TestCase):

    def test_folder(self):
        names = [path.name for path in FOLDER.iterdir() if path.name != "__pycache__"]
        self.assertEqual(sorted(names), sorted(package()))
        self.assertIn("__init__.py", names)
        self.assertLessEqual(len(names), 100)

    def test_files(self):
        files = package()
        found = [told for name, text in files.items() for told in language.in_file(name, text, files)]
        self.assertEqual(found, [])

    def test_imports_go_in_no_ring(self):
        self.assertEqual(language.import_rings(package()), [])

    def test_no_more_than_so_many_characters_of_strings(self):
        self.assertLess(sum(len(text) for text in package().values()), 2000000)


class FinderTest(unittest.TestCase):

    def test_it_finds_what_is_broken(self):
        files = package()
        for rule, texts in BROKEN.items():
            for text in texts:
                found = language.in_file("own.py", HEAD + text, files)
                self.assertTrue(any(rule in told for told in found), (rule, text, found))

    def test_it_finds_rings_of_imports(self):
        files = {"a.py": "from unwound.b import x\n", "b.py": "from unwound.c import y\n", "c.py": "from unwound.a import z\n",
                 "d.py": "from unwound.a import z\n"}
        self.assertEqual(language.import_rings(files), ["a.py", "b.py", "c.py"])

    def test_it_finds_names_of_files(self):
        for name in ("Own.py", "len.py", "test_own.py", "law_1.py", "tests.py", "o-n.py"):
            self.assertTrue(language.in_file(name, HEAD, package()), name)


if __name__ == "__main__":
    unittest.main()
