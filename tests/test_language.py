"""Test that the package keeps to the rules of LANGUAGE.md, as far as the code alone can tell."""

import tempfile
import unittest
from pathlib import Path
from unittest import mock

from tests import language

BROKEN = {
    "L1": ("Odd.py", ""), "L2": ("a.py", "import os\n"), "L3": ("a.py", "print(1)\n"),
    "L4": ("a.py", "def f(x=[]):\n    return x\n"), "L5": ("a.py", "class A:\n    def __hash__(self):\n        return 1\n"),
    "L6": ("a.py", "def f():\n    global g\n"), "L7": ("a.py", "def f(x):\n    return x / 2\n"),
    "L8": ("a.py", "def f(x):\n    return type(x)\n"), "L10": ("a.py", "def f():\n" + "    pass\n" * 40),
    "L12": ("a.py", "def __f():\n    pass\n"), "L14": ("a.py", "# \u00e9\n"), "L15": ("a.py", "def f(hash):\n    return hash\n"),
    "L16": ("a.py", "from keptedits.b import x\n"), "L17": ("a.py", "def f(elements):\n    return elements\n"),
    "L18": ("a.py", "class A:\n    pass\n\n\ndef f():\n    return [A]\n"),
    "L19": ("a.py", "def f():\n    try:\n        f()\n    except TypeError:\n        pass\n"),
    "L20": ("a.py", "def f(x, y):\n    return x is y\n"), "L21": ("a.py", "def f(x: int):\n    return x\n"),
    "L22": ("a.py", "def f(x):\n    return int(x, base=2)\n"), "L23": ("a.py", "def f(x):\n    return zip(x, x)\n"),
    "L24": ("a.py", "def f(x):\n    return set(x)\n"), "L25": ("a.py", "def f(x):\n    return x.popitem()\n"),
    "L26": ("a.py", "class A:\n    def hex(self):\n        return 1\n"), "L27": ("a.py", "WORD = \"5%\"\n"),
}


class LanguageTest(unittest.TestCase):
    def test_the_package_keeps_the_rules(self):
        self.assertEqual(language.faults(), [])

    def test_the_check_finds_what_breaks_a_rule(self):
        for rule, (name, text) in BROKEN.items():
            with tempfile.TemporaryDirectory() as folder:
                Path(folder, name).write_text(text, encoding="utf-8")
                with mock.patch.object(language, "PACKAGE", Path(folder)):
                    found = " ".join(language.faults())
            self.assertRegex(found, rf"\b{rule}\b", text)

    def test_barred_names(self):
        for name in ["_outside", "_record_1", "_law_of", "_sre", "_walled"]:
            with tempfile.TemporaryDirectory() as folder:
                Path(folder, "a.py").write_text(f"def {name}():\n    return 1\n", encoding="utf-8")
                with mock.patch.object(language, "PACKAGE", Path(folder)):
                    self.assertEqual(language.faults(), [f"a: L12 {name}"])

    def test_what_loops_go_over_is_not_changed(self):
        for thing, lines in [("x", ["for k in (thing):", "    x[k] = 1"]), ("x.items()", ["for k, v in (thing):", "    del x[k]"]),
                             ("x.y", ["for k, v in enumerate((thing)):", "    if k:", "        x.y.append(v)"]),
                             ("z", ["z = x", "while z:", "    y = []", "    for k in (thing):", "        y.extend(k)", "    z = y"]),
                             ("x", ["return [x.pop() for k in (thing)]"])]:
            for told, wanted in [(thing, 1), (f"list({thing})", 0)]:
                text = "\n    ".join(["def f(x):"] + lines).replace("(thing)", told) + "\n"
                with tempfile.TemporaryDirectory() as folder:
                    Path(folder, "a.py").write_text(text, encoding="utf-8")
                    with mock.patch.object(language, "PACKAGE", Path(folder)):
                        found = [one for one in language.faults() if one.startswith("a: L23")]
                self.assertEqual(len(found), wanted, text)

    def test_what_properties_run_changes_nothing(self):
        text = "class A:\n    @property\n    def x(self):\n        return self._f()\n\n    def _f(self):\n        self.y = 1\n"
        with tempfile.TemporaryDirectory() as folder:
            Path(folder, "a.py").write_text(text, encoding="utf-8")
            with mock.patch.object(language, "PACKAGE", Path(folder)):
                self.assertEqual(language.faults(), ["L5 _f line 7"])


if __name__ == "__main__":
    unittest.main()
