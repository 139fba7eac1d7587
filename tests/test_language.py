"""The rules of the language, for each file of the package."""

import pathlib
import re
import unittest

import suredue
from language import breaches, defined_in, imports_of

PACKAGE = pathlib.Path(suredue.__file__).parent
TEXTS = {path.stem: path.read_text(encoding="utf-8") for path in sorted(PACKAGE.glob("*.py"))}


class Language(unittest.TestCase):
    def test_files(self):
        names = [path.name for path in PACKAGE.iterdir() if path.name != "__pycache__"]
        self.assertIn("__init__.py", names)
        for name in names:
            self.assertTrue(name == "__init__.py" or re.fullmatch("[a-z][a-z0-9_]*[.]py", name), name)

    def test_no_breaches(self):
        for name, text in TEXTS.items():
            self.assertEqual(breaches("suredue", text, TEXTS.values()), [], name)

    def test_class_names_begin_with_a_letter(self):
        seen = []
        for name, text in TEXTS.items():
            for word in re.findall("^class +([A-Za-z0-9_]+)", text, re.MULTILINE):
                seen.append(word)
                bent = re.sub(rf"\b{word}\b", f"_{word}", text)
                at = 1 + bent[:bent.index(f"class _{word}")].count("\n")
                self.assertIn(("L12", at), breaches("suredue", bent), (name, word))
        for word in ("NoPlace", "Lines", "Look", "Day"):
            self.assertIn(word, seen)

    def test_one_underscore_stays_right_for_all_else(self):
        text = "_A = 1\n\n\nclass Box:\n    def __init__(self, _n):\n        self._n = _n + _A\n"
        self.assertEqual(breaches("suredue", text), [])

    def test_names_come_from_where_they_are_defined(self):
        for name, text in TEXTS.items():
            for source, wanted in imports_of("suredue", text).items():
                for word in wanted:
                    self.assertIn(word, defined_in(TEXTS[source]), name)
                    self.assertGreater(len(re.findall(rf"\b{word}\b", text)), 1, f"{word} is not used in {name}")

    def test_no_two_files_import_from_each_other(self):
        left = {name: set(imports_of("suredue", text)) for name, text in TEXTS.items()}
        while left:
            ready = [name for name in left if not left[name] & set(left)]
            self.assertTrue(ready, left)
            for name in ready:
                del left[name]

    def test_bad_code_is_found(self):
        for rule, text in (
            ("L2", "import os\n"),
            ("L2", "from os import path\n"),
            ("L2", "from .sheets import has\n"),
            ("L2", "def f():\n    from suredue.sheets import has\n    return has\n"),
            ("L3", "print(1)\n"),
            ("L3", "A = B = 1\n"),
            ("L3", "A = len('x')\n"),
            ("L4", "@f\ndef g():\n    return 1\n"),
            ("L6", "def f():\n    global x\n    x = 1\n"),
            ("L6", "def f(x):\n    return x / 2\n"),
            ("L7", "def f():\n    return 1.5\n"),
            ("L8", "def f(x):\n    return round(x)\n"),
            ("L8", "def f(x):\n    for _ in x:\n        return _\n"),
            ("L10", "def f(x):\n" + "    x += 1\n" * 40),
            ("L10", "A = 1\n" * 400),
            ("L10", "# " + "x" * 119 + "\n"),
            ("L12", "def __f(x):\n    return x\n"),
            ("L12", "class _Box:\n    def f(self):\n        return 1\n"),
            ("L12", "def f():\n    return 1\n\n\nclass _B(ValueError):\n    def f(self):\n        return 1\n"),
            ("L12", "class _:\n    def f(self):\n        return 1\n"),
            ("L14", "A = 1\t\n"),
            ("L15", "def f(sum):\n    return sum\n"),
            ("L15", "A = 1\nA = 2\n"),
            ("L15", "from suredue.sheets import has\n\n\ndef f(has):\n    return has\n"),
            ("L17", "def f(open):\n    return open\n"),
            ("L17", "def f():\n    return 'a type'\n"),
            ("L18", "class A:\n    def n(self):\n        self.n = 1\n"),
            ("L26", "class A:\n    def __init__(self):\n        self.items = 1\n"),
            ("L20", "def f(a, b):\n    return a is b\n"),
            ("L24", "def f(a):\n    return set(a)\n"),
            ("L25", "def f(a):\n    return a.format_map(1)\n"),
            ("L27", "def f(a):\n    return '%'\n"),
        ):
            self.assertIn(rule, [found for found, _ in breaches("suredue", text)], text)


if __name__ == "__main__":
    unittest.main()
