"""[15] and [2]: whether a value is what a name of the definitions says."""

import unittest

from packsworn.forms import (is_case, is_content, is_lock, is_lot_of_names, is_need, is_note, is_pack, is_path,
                             is_registry, is_wish)
from tests.kinds import bent, same, values
from tests.samples import EVERY, ONE, PLAIN, THREE, TWO, full_case, full_pack, some_case

ALL = (is_lot_of_names, is_path, is_content, is_need, is_note, is_pack, is_registry, is_wish, is_lock, is_case)


def pack_with(place, part):
    """Return a pack with one part exchanged."""
    pack = full_pack()
    return pack[:place] + (part,) + pack[place + 1:]


class TestSmall(unittest.TestCase):
    def check(self, test, good, bad):
        for value in good:
            self.assertIs(test(value), True, value)
        for value in bad:
            self.assertIs(test(value), False, value)

    def test_lot_of_names(self):
        self.check(is_lot_of_names, [(), ("a",), ("a", "a-", "b"), ("b", "ba")],
                   [["a"], "a", ("b", "a"), ("a", "a"), ("A",), (1,), (True,), None, {"a": 1}, ("a", None)])

    def test_names_of_twenty_signs(self):
        self.check(is_lot_of_names, [("a" * 20,)], [("a" * 21,)])
        self.check(is_path, ["a" * 20, "a" * 20 + "/" + "b" * 20], ["a" * 21, "a" * 20 + "/" + "b" * 21])

    def test_path(self):
        self.check(is_path, ["a", "a/b", "a-b/c1/d", "/".join(["a"] * 20000)],
                   ["", "/", "a/", "/a", "a//b", "a/1", "A", "a b", "a/b\n", "a.b", None, ("a",), 1, b"a"])

    def test_content(self):
        self.check(is_content, ["", " ", "~", "\n", "a\nb", "x" * 200, "\n" * 200, "\\", '"'],
                   ["x" * 201, "\t", "\x7f", "\r", "\x00", "\u00e9", "\x1f", None, 1, b"", ["a"], ("",)])

    def test_need(self):
        self.check(is_need, [("a", EVERY, (), True), ("a", (), ("b", "c"), False)],
                   [("a", EVERY, (), 1), ("a", EVERY, (), 0), ("a", EVERY, (), None), ["a", EVERY, (), True],
                    ("a", EVERY, ["b"], True), ("a", EVERY, ("c", "b"), True), ("a", [], (), True), ("a", EVERY, ()),
                    ("A", EVERY, (), True), ("a", EVERY, (), True, True), ("a", None, (), True), "abcd"])

    def test_note(self):
        self.check(is_note, [("a", EVERY), ("a", ())], [("a",), ("a", EVERY, ()), ["a", EVERY], ("a", None), "ab"])

    def test_wish(self):
        need = ("a", EVERY, (), True)
        self.check(is_wish, [(), (need,), (need, need)], [[need], need, (need, None), None, {}])

    def test_lock(self):
        self.check(is_lock, [{}, {"a": (ONE, ())}, {"b": (ONE, ("f", "g")), "a": (TWO, ())}],
                   [{"a": [ONE, ()]}, {"a": (ONE,)}, {"a": (ONE, [])}, {"a": (list(ONE), ())}, {"A": (ONE, ())},
                    {"a": (ONE, ("g", "f"))}, {1: (ONE, ())}, {"a": ((True, 0, 0), ())}, {"a": None}, (), None, [],
                    {("a",): (ONE, ())}])


class TestPack(unittest.TestCase):
    def good(self, pack):
        self.assertIs(is_pack(pack), True, pack)

    def bad(self, pack):
        self.assertIs(is_pack(pack), False, pack)

    def test_whole(self):
        self.good(full_pack())
        self.good(("a", ONE, ()) + PLAIN)
        self.bad(list(full_pack()))
        self.bad(full_pack()[:-1])
        self.bad(full_pack() + ((),))
        self.bad(pack_with(0, "App"))
        self.bad(pack_with(1, "1.0.0"))

    def test_needs_and_notes(self):
        need, note = ("a", EVERY, (), True), ("a", EVERY)
        self.good(pack_with(2, (need, need)))
        self.bad(pack_with(2, [need]))
        self.bad(pack_with(2, (note,)))
        for place in (3, 4):
            self.good(pack_with(place, (note, note)))
            self.good(pack_with(place, ()))
            self.bad(pack_with(place, [note]))
            self.bad(pack_with(place, (need,)))

    def features(self, features, defaults):
        return is_pack(pack_with(5, features)[:6] + (defaults, ()))

    def test_features(self):
        need = ("a", EVERY, (), True)
        for features, defaults in (((), ()), ((("f", (), ()),), ("f",)), ((("f", ("f",), (need, need)),), ()),
                                   ((("f", ("g",), ()), ("g", ("f",), ())), ("f", "g"))):
            self.assertIs(self.features(features, defaults), True, features)
        for features, defaults in (((("g", (), ()), ("f", (), ())), ()), ((("f", (), ()), ("f", (), ())), ()),
                                   ((("f", (), ()), ("f", (), (need,))), ()), ((("f", ("g",), ()),), ()),
                                   ((("f", (), ()),), ("g",)), ((("f", (), ()),), ["f"]), ([("f", (), ())], ()),
                                   ((["f", (), ()],), ()), ((("f", [], ()),), ()), ((("f", (), [need]),), ()),
                                   ((("F", (), ()),), ()), ((("f", ()),), ()), (("f",), ("f",)), ((), ("f",)),
                                   ((("f", ("g", "f"), ()), ("g", (), ())), ()), ((("f", (), ()),), ("f", "f"))):
            self.assertIs(self.features(features, defaults), False, features)

    def test_files(self):
        for files in ((), (("a", ""),), (("a", "x"), ("b", "x" * 200)), (("a", ""), ("a-b", ""), ("ab/c", "")),
                      (("a-b", ""), ("a/b", ""), ("a/c", "")), (("a-b/c", ""), ("a/b", ""))):
            self.good(pack_with(7, files))
        for files in ((("b", ""), ("a", "")), (("a", ""), ("a", "x")), (("a", ""), ("a/b", "")), [("a", "")],
                      (["a", ""],), (("a", "x" * 201),), (("a", None),), (("A", ""),), (("a",),), (("a/", ""),),
                      (("a", ""), ("a-b", ""), ("a/b", "")), (("a/b", ""), ("a/b-c", ""), ("a/b/c", "")),
                      (("a", ""), ("a-b", ""), ("a-c", ""), ("a/b/c/d", ""))):
            self.bad(pack_with(7, files))


class TestLarge(unittest.TestCase):
    def test_registry(self):
        app, late, lib = ("app", ONE, ()) + PLAIN, ("app", TWO, ()) + PLAIN, ("lib", ONE, ()) + PLAIN
        marks = (("app", ONE), ("app", TWO), ("lib", ONE))
        for registry in (((), ()), ((app, late, lib), ()), ((app, late, lib), marks), ((lib,), (("lib", ONE),))):
            self.assertIs(is_registry(registry), True, registry)
        for registry in (((late, app), ()), ((lib, app), ()), ((app, app), ()), ((app,), (("app", TWO),)),
                         ((app, late), marks[1::-1]), ((app,), (("app", ONE), ("app", ONE))), ([app], ()),
                         ((app,), [("app", ONE)]), ((app,), (["app", ONE],)), ((app,), (("app", list(ONE)),)),
                         ((app,), (("app", (True, 0, 0)),)), ((app,),), [(), ()], ((app,), (), ()), ((app[:7],), ()),
                         ((app, full_pack()), ()), ((), (("app", ONE),)), ((app,), ((app[0], app[1], ()),))):
            self.assertIs(is_registry(registry), False, registry)

    def test_case(self):
        registry, wish, lock, _ = full_case()
        for mode in ("newest", "oldest", "steady"):
            self.assertIs(is_case((registry, wish, lock, mode)), True)
            self.assertIs(is_case((((), ()), (), {}, mode)), True)
        for value in ((registry, wish, lock, "latest"), (registry, wish, lock, None), (registry, wish, lock, ["newest"]),
                      [registry, wish, lock, "newest"], (registry, wish, lock), (registry, wish, None, "newest"),
                      (registry, list(wish), lock, "newest"), (wish, registry, lock, "newest"), (registry, wish, lock, ""),
                      (list(registry), wish, lock, "newest"), (registry, wish, (), "newest")):
            self.assertIs(is_case(value), False)

    def test_bounds_are_not_checked(self):
        many = tuple(("a", EVERY, (), True) for _ in range(100))
        packs = tuple((f"n{number:04}", THREE, many, (), (), (), (), ()) for number in range(50))
        self.assertIs(is_case(((packs, ()), many, {}, "newest")), True)

    def test_any_value(self):
        for test in ALL:
            for value in values():
                self.assertIsInstance(test(value), bool, repr(value)[:80])

    def test_some_cases(self):
        for seed in range(60):
            registry, wish, lock, _ = case = some_case(seed)
            self.assertEqual([is_case(case), is_registry(registry), is_wish(wish), is_lock(lock)], [True] * 4)
            self.assertTrue(all(is_pack(pack) for pack in registry[0]))

    def test_bent_cases(self):
        """What has True or False for an integer, or a list for a tuple, is never what it was."""
        case = full_case()
        for value in bent(case):
            if is_case(value):
                self.assertTrue(is_case(plain(value)))
                self.assertTrue(same(plain(value), value))
            elif value == case:
                self.assertFalse(same(value, case))


def plain(value):
    """Return a value with integers for True and False, and tuples for lists, but where bare is told."""
    if isinstance(value, (list, tuple)):
        parts = [plain(part) for part in value]
        if len(value) == 4 and isinstance(value[0], str) and isinstance(value[3], bool):
            parts[3] = value[3]
        return tuple(parts)
    if isinstance(value, dict):
        return {key: plain(value[key]) for key in value}
    return int(value) if isinstance(value, bool) else value


if __name__ == "__main__":
    unittest.main()
