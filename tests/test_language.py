"""The package keeps the rules of ../shared/LANGUAGE.md, as far as tests/language.py can tell."""

import os
import re
import unittest

from tests.language import faults, imports_of

FOLDER = os.path.join(os.path.dirname(os.path.abspath(__file__)), "..", "packsworn")

# The order in which the document lists the modules, with the package's own ones between them: each uses those ahead
# of it alone.
ORDER = ["errors", "versions", "ranges", "rangetexts", "forms", "registry", "texts", "reader", "overlays", "demands",
         "reach", "plans", "liking", "clauses", "axioms", "judge", "watching", "narrowing", "blaming", "solver",
         "cores", "words", "helps", "locks", "upgrades", "whys", "orders", "disk", "store", "trees", "journal", "installer",
         "cuts", "generations", "collecting", "lookover", "lastings", "releases", "house", "desk"]

BAD = {
    "L2": "import os",
    "L3": "for x in (): pass",
    "L4": "def f(*rest):\n    return 1",
    "L5": "class A:\n    x: int = 0",
    "L6": "def f():\n    global x",
    "L7": "def f(xs):\n    return any(x for x in xs)",
    "L8": "def f(xs):\n    return iter(xs)",
    "L10": "def f(x):\n" + "    x = 1\n" * 40,
    "L12": "def f(x):\n    for _ in x:\n        y = _\n    return y",
    "L14": "# \u00e9",
    "L15": "def f(min):\n    return min",
    "L16": "from pack.other import missing",
    "L17": "def f(x):\n    return x.mro",
    "L19": "def f(x):\n    try:\n        return x()\n    except:\n        return 1",
    "L20": "def f(x, y):\n    return x is y",
    "L22": "def f(x):\n    return int(x, base=2)",
    "L23": "def f(x):\n    for y in x:\n        x.append(y)",
    "L24": "def f(x):\n    return set(x)",
    "L25": "def f(x):\n    return x.sort()",
    "L27": "A = \"a\\r\"",
}


def texts():
    found = {}
    for name in sorted(os.listdir(FOLDER)):
        if name != "__pycache__":
            with open(os.path.join(FOLDER, name), encoding="utf-8") as file:
                found[name.removesuffix(".py")] = file.read()
    return found


class TestLanguage(unittest.TestCase):
    def test_files(self):
        for name in sorted(os.listdir(FOLDER)):
            if name != "__pycache__":
                self.assertTrue(re.fullmatch(r"[a-z_]+\.py", name), name)

    def test_faults(self):
        self.assertEqual(faults(texts(), "packsworn"), [])

    def test_order_of_modules(self):
        self.assertEqual(sorted(set(texts()) - {"__init__"}), sorted(ORDER))
        for name, text in texts().items():
            for other in imports_of(text, "packsworn"):
                self.assertLess(ORDER.index(other), ORDER.index(name), (name, other))

    def test_the_checker_finds_faults(self):
        for rule, text in BAD.items():
            found = faults({"file": text, "other": ""}, "pack")
            self.assertTrue(any(f" {rule} " in fault for fault in found), (rule, found))


if __name__ == "__main__":
    unittest.main()
