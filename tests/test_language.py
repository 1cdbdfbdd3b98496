import pathlib
import unittest

from tests.language import check

PACKAGE = pathlib.Path(__file__).resolve().parent.parent / "hearths"


class Language(unittest.TestCase):
    def texts(self):
        return {path.name: path.read_text(encoding="utf-8") for path in PACKAGE.iterdir() if path.suffix == ".py"}

    def test_files(self):
        names = [path.name for path in PACKAGE.iterdir() if path.name != "__pycache__"]
        self.assertEqual([name for name in names if not name.endswith(".py")], [])
        self.assertIn("__init__.py", names)
        self.assertLessEqual(len(names), 100)
        self.assertTrue(all(name == name.lower() and not name.startswith("test") for name in names))

    def test_the_package_keeps_to_the_rules(self):
        self.assertEqual(check(self.texts()), [])

    def test_breaks_are_found(self):
        breaks = ["def f(x):\n    return x / 2", "def f(x):\n    return any(y for y in x)", "import os", "A = f()",
                  "def f(x):\n    try:\n        return 1\n    except KeyError:\n        return 2",
                  "def f(x):\n    return x is 3", "def f(x):\n    return set(x)", "def f(id):\n    return id",
                  "def f(x):\n    return x.sort()", "def f(x):\n    y = x.items()\n    return y",
                  "def f(x):\n    for y in x:\n        x.append(y)", "def f(x):\n    return open(x)",
                  "def f(x):\n    return \"%\"", "def f(x):\n    return 2 ** x", "def f(x):\n    return f(x, x)",
                  "def f(x):\n    raise x", "def f(x):\n    return 0.5", "def f(x):\n    return hash(x)",
                  "def f(x):\n    assert x", "def f(x):\n    return print(x)",
                  "def f(x):\n" + "    x += 1\n" * 40, "# \u00e4", "X = 1\nX = 2",
                  "def f(x):\n    try:\n        return x\n    finally:\n        x.clear()",
                  "def f(x):\n    return x\n\n\nT = {1: [f]}", "T = [1]", "T = {1: g}", "T = {1: {}}"]
        for text in breaks:
            self.assertTrue(check({"one.py": f'"""One."""\n\n{text}\n'}), text)
        self.assertEqual(check({"one.py": '"""One."""\n\n\ndef f(x):\n    return [y for y in x]\n'}), [])


if __name__ == "__main__":
    unittest.main()
