"""[12]: integers, names and versions."""

import unittest

from packsworn.errors import NoVersion, Wrong
from packsworn.versions import after, is_integer, is_name, is_version, raised, read_version, show_version
from tests.kinds import bent, same, values

LAST = (999999, 999999, 999999)
SOME = [(0, 0, 0), (0, 0, 1), (0, 1, 0), (1, 0, 0), (1, 2, 3), (10, 20, 30), (9, 99, 999), (0, 0, 999999),
        (0, 999999, 999999), (999999, 0, 0), (5, 999999, 7), (999999, 999999, 0), (100000, 999998, 999999), LAST]


class TestVersions(unittest.TestCase):
    def test_is_integer(self):
        for value in (0, 1, -1, 10 ** 39, -(10 ** 39)):
            self.assertIs(is_integer(value), True)
        for value in (True, False, None, "1", (), [1], {}, (1,)):
            self.assertIs(is_integer(value), False)

    def test_is_version(self):
        for version in SOME:
            self.assertIs(is_version(version), True)
        for value in ((1, 2), (1, 2, 3, 4), [1, 2, 3], (1, 2, True), (False, 0, 0), (0, -1, 0), (0, 0, 1000000),
                      ("1", 2, 3), (None, 0, 0), ((1, 2, 3),), (10 ** 39, 0, 0), {1: 2, 2: 3, 3: 4}, "1.2.3"):
            self.assertIs(is_version(value), False, value)

    def test_is_name(self):
        for name in ("a", "z", "a1", "a-", "z-9-z", "a" * 20, "name-of-20-signs-yes"):
            self.assertIs(is_name(name), True, name)
        for value in ("", "a" * 21, "1a", "-a", "A", "aB", "a_b", "a b", "a\n", "\u00e9", "a\u00e9", "a/b", "\u0661",
                      b"a", ("a",), ["a"], None, True, 0, {"a": 1}):
            self.assertIs(is_name(value), False, value)

    def test_any_value(self):
        for test in (is_integer, is_version, is_name):
            for value in values() + bent((1, 0, 3)):
                self.assertIs(test(value), test(value))
                self.assertIsInstance(test(value), bool)
        self.assertEqual([value for value in bent((1, 0, 3)) if is_version(value)],
                         [value for value in bent((1, 0, 3)) if is_plain_version(value)])

    def test_show_and_read(self):
        for version in SOME:
            self.assertEqual(show_version(version), "%d.%d.%d" % version)
            self.assertTrue(same(read_version(show_version(version)), version))

    def test_read_refuses(self):
        for text in ("", ".", "..", "1", "1.2", "1.2.3.4", "01.2.3", "1.02.3", "1.2.00", "-1.2.3", "+1.2.3", "1. 2.3",
                     " 1.2.3", "1.2.3 ", "1.2.3\n", "1000000.0.0", "0.0.1000000", "1.2.x", "1_0.2.3", "\u0661.2.3",
                     "\u00b2.0.0", "1" * 40000, ".".join(["1" * 5000] * 3), "." * 40000, "1..3", "1,2,3"):
            with self.assertRaises(NoVersion, msg=text[:30]):
                read_version(text)

    def test_read_wrong(self):
        for value in values():
            if not isinstance(value, str):
                with self.assertRaises(Wrong) as caught:
                    read_version(value)
                self.assertEqual(caught.exception.place, 0)
            elif value == "1.2.3":
                self.assertEqual(read_version(value), (1, 2, 3))
            else:
                self.assertRaises(NoVersion, read_version, value)

    def test_after(self):
        self.assertEqual([after(version) for version in ((0, 0, 0), (1, 2, 999999), (1, 999999, 999999))],
                         [(0, 0, 1), (1, 3, 0), (2, 0, 0)])
        self.assertIsNone(after(LAST))
        for version in SOME[:-1]:
            self.assertEqual(number_of(after(version)), number_of(version) + 1)
            self.assertTrue(is_version(after(version)))

    def test_raised(self):
        self.assertEqual([raised((1, 2, 3), place) for place in range(3)], [(2, 0, 0), (1, 3, 0), (1, 2, 4)])
        self.assertEqual([raised((0, 0, 0), place) for place in range(3)], [(1, 0, 0), (0, 1, 0), (0, 0, 1)])
        self.assertEqual([raised((5, 999999, 7), place) for place in range(3)], [(6, 0, 0), None, (5, 999999, 8)])
        self.assertEqual([raised(LAST, place) for place in range(3)], [None, None, None])
        for version in SOME:
            for place in range(3):
                found = raised(version, place)
                self.assertEqual(found is None, version[place] == 999999)
                if found is not None:
                    self.assertEqual(found[:place], version[:place])
                    self.assertEqual(found[place:], (version[place] + 1,) + (0,) * (2 - place))


def is_plain_version(value):
    return (type(value) is tuple and len(value) == 3
            and all(type(part) is int and part in range(1000000) for part in value))


def number_of(version):
    return (version[0] * 1000000 + version[1]) * 1000000 + version[2]


if __name__ == "__main__":
    unittest.main()
