"""[17]: registries, wishes and cases shown."""

import unittest

from packsworn.texts import show_case, show_registry, show_wish
from tests.kinds import calls_alike
from tests.samples import EVERY, ONE, PLAIN, THREE, TWO, full_case, full_pack, some_case

FULL = """pack app 1.0.0
needs lib ; from 1.0.0 and below 2.0.0 or from 3.0.0 ; with a b
needs zip ; all ; bare
peer log ; all
bar old ; 1.0.0
bar log ; none
feature fast ; also small
extra zip ; all ; with deep ; bare
extra app ; none
feature small
default fast small
file app/doc : a\\nb\\\\n
file app/run : """


class TestTexts(unittest.TestCase):
    def test_nothing(self):
        self.assertEqual([show_registry(((), ())), show_wish(()), show_case((((), ()), (), {}, "oldest"))],
                         ["", "", "mode oldest"])

    def test_full_pack(self):
        self.assertEqual(show_registry(((full_pack(),), ())), FULL)

    def test_order_and_withdrawn(self):
        packs = (("a", ONE, ()) + PLAIN, ("a", (10, 0, 0), ()) + PLAIN, ("b", TWO, ()) + PLAIN)
        self.assertEqual(show_registry((packs, (("a", (10, 0, 0)), ("b", TWO)))),
                         "pack a 1.0.0\npack a 10.0.0\npack b 2.0.0\nwithdrawn a 10.0.0\nwithdrawn b 2.0.0")

    def test_wish(self):
        wish = (("b", EVERY, (), True), ("a", ((ONE, None),), ("f", "g"), False), ("a", (), ("f",), True))
        self.assertEqual(calls_alike(self, show_wish, wish),
                         "wish b ; all ; bare\nwish a ; from 1.0.0 ; with f g\nwish a ; none ; with f ; bare")

    def test_case(self):
        registry, wish, lock, mode = full_case()
        lines = show_case((registry, wish, lock, mode)).split("\n")
        self.assertEqual(lines[:-7], show_registry(registry).split("\n")[:-2])
        self.assertEqual(lines[-7:], [
            "withdrawn app 2.0.0", "withdrawn lib 1.0.0", "wish app ; all ; with fast ; bare", "wish none-such ; none",
            "lock app 1.0.0 ; with fast small", "lock gone 3.0.0", "mode steady"])

    def test_locks_are_shown_ascending(self):
        lock = {"b": (ONE, ()), "c": (THREE, ("f",)), "a": (TWO, ())}
        self.assertEqual(show_case((((), ()), (), lock, "newest")),
                         "lock a 2.0.0\nlock b 1.0.0\nlock c 3.0.0 ; with f\nmode newest")

    def test_contents(self):
        for content, shown in (("", ""), (" a ", " a "), ("\\", "\\\\"), ("\n", "\\n"), ("\\n", "\\\\n"), (" : #;", " : #;"),
                               ("\\\n\\", "\\\\\\n\\\\"), ("\n\n", "\\n\\n"), ("~" * 200, "~" * 200)):
            pack = ("a", ONE) + PLAIN + ((("p/q", content),),)
            self.assertEqual(show_registry(((pack,), ())), f"pack a 1.0.0\nfile p/q : {shown}")

    def test_same_again(self):
        for seed in range(20):
            case = some_case(seed)
            for call, value in ((show_case, case), (show_registry, case[0]), (show_wish, case[1])):
                self.assertIsInstance(calls_alike(self, call, value), str)


if __name__ == "__main__":
    unittest.main()
