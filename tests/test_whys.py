"""[35]: why something is there, against a slow listing straight from the definitions."""

import unittest

from packsworn.reach import is_road
from packsworn.whys import held_lines, leaning, needers, rings, why_there
from tests import nets, slow
from tests.kinds import calls_alike, same
from tests.samples import EVERY, ONE, TWO
from tests.small import asked, case_of, pack, rows

PLANS = [(case, plan) for case, plans, _ in rows() for plan in plans[:3]] + nets.nets(300)


def turned(plan):
    """Return a plan with its keys in another order."""
    return {name: plan[name] for name in reversed(list(plan))}


def left_without(case, plan, name):
    """Return the set of the things that are reached if a name and its features never are."""
    found = set()
    while True:
        new = {thing for conditions, thing in slow.supports(case) if thing[0] != name and thing not in found
               and all(its in found and (option is True or plan[its[0]][0] == option) for its, option in conditions)}
        if not new:
            return found
        found |= new


class TestLines(unittest.TestCase):
    def test_held(self):
        for case, plan in PLANS:
            told = nets.held(case, plan)
            for one in (plan, turned(plan)):
                self.assertTrue(same(calls_alike(self, held_lines, case, one), [line for line, _ in told]))
            for name in slow.names(case):
                self.assertTrue(same(calls_alike(self, needers, case, plan, name), [line for line, need in told if need[0] == name]))

    def test_held_by_hand(self):
        features = (("f", (), asked("b")), ("g", (), asked("b")))
        case = case_of([pack("a", needs=asked("b"), features=features), pack("a", TWO, asked("b")), pack("b")], (("a", EVERY, ("g",), True),))
        plan = {"a": (ONE, ("g",)), "b": (ONE, ())}
        self.assertEqual(held_lines(case, plan), [("wish", 0), ("need", "a", ONE, 0), ("extra", "a", ONE, "g", 0)])
        self.assertEqual(needers(case, plan, "b"), [("need", "a", ONE, 0), ("extra", "a", ONE, "g", 0)])
        self.assertEqual([needers(case, plan, "a"), held_lines(case_of([pack("a", needs=asked("a"))], ()), {})], [[("wish", 0)], []])


class TestRoads(unittest.TestCase):
    def test_roads(self):
        many = 0
        for case, plan in PLANS:
            choice = {name: plan[name][0] for name in plan}
            for name in plan:
                road = calls_alike(self, why_there, case, plan, name)
                self.assertIs(is_road(case, choice, (name,), road), True)
                self.assertTrue(same(why_there(case, turned(plan), name), road))
                for at, (_, thing) in enumerate(road[:-1]):
                    later = [condition[0] for conditions, _ in road[at + 1:] for condition in conditions]
                    self.assertIn(thing, later)
                many += len(road) > 2
        self.assertGreater(many, 100)

    def test_by_hand(self):
        case = case_of([pack("a", needs=(("b", EVERY, ("f",), True),)), pack("b", features=(("f", (), asked("c")),)), pack("c")], asked("a"))
        plan = {"a": (ONE, ()), "b": (ONE, ("f",)), "c": (ONE, ())}
        at_a, at_b = (("a",), ONE), (("b",), ONE)
        self.assertEqual(why_there(case, plan, "a"), (((), ("a",)),))
        road = why_there(case, plan, "c")
        self.assertEqual(sorted(road), sorted([((), ("a",)), ((at_a,), ("b",)), ((at_a,), ("b", "f")),
                                               ((at_b, (("b", "f"), True)), ("c",))]))
        self.assertEqual([road[0], road[-1][1]], [((), ("a",)), ("c",)])


class TestLeaning(unittest.TestCase):
    def test_against_the_listing(self):
        many = 0
        for case, plan in PLANS:
            for name in plan:
                left = left_without(case, plan, name)
                wanted = tuple(sorted(other for other in plan if other != name and (other,) not in left))
                self.assertTrue(same(calls_alike(self, leaning, case, plan, name), wanted))
                self.assertTrue(same(leaning(case, turned(plan), name), wanted))
                many += bool(wanted)
        self.assertGreater(many, 50)

    def test_by_hand(self):
        case = case_of([pack("a", needs=asked("b", "c")), pack("b", needs=asked("d")), pack("c", needs=asked("d")), pack("d", needs=asked("b"))],
                       asked("a", "c"))
        plan = {name: (ONE, ()) for name in "abcd"}
        self.assertEqual([leaning(case, plan, name) for name in "abcd"], [(), (), (), ()])
        case = case_of(case[0][0], asked("a"))
        self.assertEqual([leaning(case, plan, name) for name in "abcd"], [("b", "c", "d"), (), (), ()])

    def test_features_of_the_name(self):
        """A name that is reached by a feature of another one leans on that one."""
        case = case_of([pack("a", features=(("f", (), asked("b")),)), pack("b"), pack("c", needs=(("a", EVERY, ("f",), True),))], asked("c", "a"))
        plan = {"a": (ONE, ("f",)), "b": (ONE, ()), "c": (ONE, ())}
        self.assertEqual([leaning(case, plan, name) for name in "abc"], [("b",), (), ("b",)])


class TestRings(unittest.TestCase):
    def test_against_the_listing(self):
        sizes = set()
        for case, plan in PLANS:
            wanted = nets.rings(case, plan)
            self.assertTrue(same(calls_alike(self, rings, case, plan), wanted))
            self.assertTrue(same(rings(case, turned(plan)), wanted))
            sizes |= {len(ring) for ring in wanted}
        self.assertTrue({1, 2, 3, 4} <= sizes, sizes)

    def test_by_hand(self):
        packs = [pack("a", needs=asked("a", "b")), pack("b", needs=asked("c")), pack("c", needs=asked("d", "e")), pack("d", needs=asked("b")),
                 pack("e", needs=asked("f")), pack("f", needs=asked("e", "f"))]
        plan = {name: (ONE, ()) for name in "abcdef"}
        self.assertEqual(rings(case_of(packs, asked("a")), plan), [("a",), ("b", "c", "d"), ("e", "f")])
        self.assertEqual([rings(case_of([pack("a")], asked("a")), {"a": (ONE, ())}), rings(case_of(packs, ()), {})], [[], []])

    def test_only_lines_that_hold(self):
        """An extra makes a ring only where its feature is on, a need only where its pack is chosen."""
        for wish, wanted in ((asked("b"), []), ((("b", EVERY, ("f",), True),), [("b",)])):
            case = case_of([pack("b", features=(("f", (), asked("b")),)), pack("b", TWO, asked("b"))], wish)
            plan = {"b": (ONE, wish[0][2])}
            self.assertEqual(rings(case, plan), wanted)


if __name__ == "__main__":
    unittest.main()
