"""[20] and the definitions ahead of it: lines, conditions, things and supports, against a slow listing."""

import unittest

from packsworn.demands import case_names, conditions_of, lines_of, need_of, supports, things_of
from tests import slow
from tests.kinds import calls_alike, same
from tests.samples import EVERY, ONE, PLAIN, TWO, full_case, full_pack, some_case

CASES = [full_case(), (((), ()), (), {}, "newest")] + [some_case(seed) for seed in range(200)]
DEFAULT = (("f", (), ()),), ("f",), ()


class TestDemands(unittest.TestCase):
    def test_names(self):
        for case in CASES:
            self.assertEqual(calls_alike(self, case_names, case), tuple(slow.names(case)))

    def test_names_from_everywhere(self):
        pack = ("a", ONE, (("b", EVERY, (), True),), (("c", EVERY),), (("d", ()),), (("f", (), (("e", (), (), True),)),), (), ())
        case = (((pack,), ()), (("g", EVERY, (), True),), {"locked": (ONE, ())}, "steady")
        self.assertEqual(case_names(case), ("a", "b", "c", "d", "e", "g"))
        self.assertEqual(things_of(case), (("a",), ("a", "f"), ("b",), ("c",), ("d",), ("e",), ("g",)))

    def test_lines(self):
        for case in CASES:
            told = slow.needs_with_conditions(case)
            lines = calls_alike(self, lines_of, case)
            self.assertTrue(same(lines, [line for line, _, _ in told]))
            for line, conditions, need in told:
                self.assertEqual(calls_alike(self, need_of, case, line), need)
                self.assertTrue(same(conditions_of(line), tuple(sorted(conditions))))

    def test_order_of_lines(self):
        packs = (full_pack(), full_pack("app", TWO))
        case = ((packs, ()), (("app", EVERY, (), True), ("b", EVERY, (), True)), {}, "newest")
        self.assertEqual(lines_of(case)[:6], [
            ("wish", 0), ("wish", 1), ("need", "app", ONE, 0), ("need", "app", ONE, 1),
            ("extra", "app", ONE, "fast", 0), ("extra", "app", ONE, "fast", 1)])
        self.assertEqual(len(lines_of(case)), 10)

    def test_conditions(self):
        self.assertTrue(same(conditions_of(("wish", 3)), ()))
        self.assertTrue(same(conditions_of(("need", "a", ONE, 2)), ((("a",), ONE),)))
        self.assertTrue(same(conditions_of(("extra", "a", ONE, "f", 0)), ((("a",), ONE), (("a", "f"), True))))

    def test_things(self):
        for case in CASES:
            self.assertEqual(calls_alike(self, things_of, case), tuple(slow.things(case)))

    def test_things_named_by_needs_alone(self):
        pack = ("a", ONE, (("b", EVERY, ("x",), True),), (), (), (("f", (), (("c", (), ("y",), True),)),), (), ())
        case = (((pack,), ()), (("d", EVERY, ("z",), True),), {"a": (ONE, ("w",))}, "steady")
        self.assertEqual(things_of(case), (("a",), ("a", "f"), ("b",), ("b", "x"), ("c",), ("c", "y"), ("d",), ("d", "z")))

    def test_supports(self):
        for case in CASES:
            wanted = {(tuple(sorted(conditions)), thing) for conditions, thing in slow.supports(case)}
            self.assertTrue(same(calls_alike(self, supports, case), sorted(wanted)))

    def test_need_of_a_pack_for_itself(self):
        one = ("a", ONE, (("a", EVERY, (), False),), (), ()) + DEFAULT
        two = ("a", TWO, (), (), ()) + DEFAULT
        at_one, at_two = (("a",), ONE), (("a",), TWO)
        self.assertTrue(same(supports((((one, two), ()), (), {}, "newest")), [
            ((at_one,), ("a",)), ((at_one,), ("a", "f")), ((at_one, at_two), ("a", "f"))]))

    def test_bare_needs_and_defaults(self):
        pack = ("a", ONE, (), (), ()) + DEFAULT
        for bare, wanted in ((True, [((), ("a",))]), (False, [((), ("a",)), (((("a",), ONE),), ("a", "f"))])):
            self.assertEqual(supports((((pack,), ()), (("a", (), (), bare),), {}, "newest")), wanted)
        self.assertEqual(supports((((pack,), ()), (("a", EVERY, ("g",), True), ("a", (), ("g",), True)), {}, "newest")),
                         [((), ("a",)), ((), ("a", "g"))])

    def test_name_that_no_pack_has(self):
        case = (((), ()), (("a", EVERY, ("f",), False),), {}, "newest")
        self.assertEqual([case_names(case), supports(case)], [("a",), [((), ("a",)), ((), ("a", "f"))]])

    def test_features_call_features(self):
        pack = ("a", ONE, ()) + ((), (), (("f", ("f", "g"), ()), ("g", (), ())), (), ())
        here = (("a",), ONE), (("a", "f"), True)
        self.assertTrue(same(supports((((pack,), ()), (), {}, "newest")), [(here, ("a", "f")), (here, ("a", "g"))]))


if __name__ == "__main__":
    unittest.main()
