"""[21] and [6]: reach, ranks, roads and shut lots, against a slow listing."""

import itertools
import random
import unittest

from packsworn.demands import supports, things_of
from packsworn.reach import is_road, is_shut, ranks, reach, road_to, unreached
from tests import slow
from tests.kinds import bent, calls_alike, same, values
from tests.samples import EVERY, ONE, PLAIN, TWO, some_case, some_choice

LOG, NET = ("log", ONE, ()) + PLAIN, ("net", ONE, (("web", EVERY, (), True),)) + PLAIN
WEB = ("web", ONE, (("net", EVERY, (), False),), (), (), (("fast", ("small",), (("log", EVERY, (), True),)), ("small", (), ())),
       (), ())
RING = (((LOG, NET, WEB), ()), (("log", EVERY, (), True),), {}, "newest")
ASKED = (RING[0], (("web", EVERY, ("fast",), True),), {}, "newest")
ALL = {"web": ONE, "net": ONE, "log": ONE}


def pairs(many):
    """Return cases with some choices of each."""
    for seed in range(many):
        chance, case = random.Random(seed), some_case(seed)
        for _ in range(3):
            yield case, some_choice(chance, case)


def is_slow_road(case, choice, thing, value):
    """Tell whether a value is a road, each part of it being told as the document tells it."""
    if type(value) is not tuple or not value:
        return False
    passed = []
    for support in value:
        if not any(same(support, row) for row in supports(case)):
            return False
        for earlier, wanted in support[0]:
            if earlier not in passed or len(earlier) == 1 and choice.get(earlier[0]) != wanted:
                return False
        if support[1] in passed:
            return False
        passed.append(support[1])
    return passed[-1] == thing


def is_slow_shut(case, choice, value):
    if type(value) is not tuple or not all(any(same(part, thing) for thing in things_of(case)) for part in value):
        return False
    if any(one >= other for one, other in zip(value, value[1:])):
        return False
    return all(any(thing in value or len(thing) == 1 and choice.get(thing[0]) != wanted for thing, wanted in conditions)
               for conditions, goal in supports(case) if goal in value)


class TestReach(unittest.TestCase):
    def test_against_rounds(self):
        for case, choice in pairs(300):
            wanted = slow.ranks(case, choice)
            found = calls_alike(self, ranks, case, choice)
            self.assertTrue(same(found, wanted))
            self.assertEqual(list(found), sorted(wanted))
            self.assertTrue(same(calls_alike(self, reach, case, choice), tuple(sorted(wanted))))
            self.assertTrue(same(calls_alike(self, unreached, case, choice),
                                 tuple(thing for thing in slow.things(case) if thing not in wanted)))

    def test_nothing(self):
        case = (((), ()), (), {}, "newest")
        self.assertEqual([reach(case, {}), ranks(case, {}), unreached(case, {})], [(), {}, ()])

    def test_ring_that_nobody_asks_for(self):
        self.assertEqual(reach(RING, ALL), (("log",),))
        self.assertEqual(unreached(RING, ALL), (("net",), ("web",), ("web", "fast"), ("web", "small")))
        self.assertEqual(ranks(ASKED, ALL), {("log",): 1, ("net",): 1, ("web",): 0, ("web", "fast"): 0, ("web", "small"): 1})

    def test_absent_names(self):
        self.assertEqual(ranks(ASKED, {}), {("web",): 0, ("web", "fast"): 0})
        self.assertEqual(ranks(ASKED, {"net": ONE, "log": ONE}), {("web",): 0, ("web", "fast"): 0})

    def test_name_that_no_pack_has(self):
        case = (((), ()), (("a", EVERY, ("f",), False),), {}, "newest")
        self.assertEqual(ranks(case, {}), {("a",): 0, ("a", "f"): 0})

    def test_defaults_and_bare_needs(self):
        pack = ("a", TWO, (), (), (), (("f", ("g",), ()), ("g", (), ())), ("f",), ())
        for bare, wanted in ((True, {("a",): 0}), (False, {("a",): 0, ("a", "f"): 1, ("a", "g"): 2})):
            case = (((pack,), ()), (("a", (), (), bare),), {}, "newest")
            self.assertEqual(ranks(case, {"a": TWO}), wanted)
            self.assertEqual(ranks(case, {}), {("a",): 0})

    def test_keys_in_any_order(self):
        for order in itertools.permutations(ALL):
            self.assertEqual(ranks(ASKED, {name: ALL[name] for name in order}), ranks(ASKED, ALL))


class TestRoads(unittest.TestCase):
    def test_roads(self):
        for case, choice in pairs(150):
            reached = slow.ranks(case, choice)
            for thing in slow.things(case):
                road = calls_alike(self, road_to, case, choice, thing)
                self.assertEqual(road is None, thing not in reached)
                if road is not None:
                    self.assertTrue(is_slow_road(case, choice, thing, road))
                    self.assertIs(calls_alike(self, is_road, case, choice, thing, road), True)

    def test_roads_that_are_longer_or_in_another_order(self):
        rows = [((), ("web",)), ((), ("web", "fast"))] + [row for row in supports(ASKED) if row[0]]
        seen = set()
        for many in range(4):
            for value in itertools.product(rows, repeat=many):
                for thing in (("log",), ("net",), ("web", "fast")):
                    wanted = is_slow_road(ASKED, ALL, thing, value)
                    self.assertIs(is_road(ASKED, ALL, thing, value), wanted)
                    seen.add((thing, wanted))
        self.assertEqual(len(seen), 6)

    def test_bent_roads(self):
        for thing in (("log",), ("web", "small")):
            road = road_to(ASKED, ALL, thing)
            for value in bent(road) + [road[1:], road[:-1], road[::-1], road + road, list(road)]:
                self.assertIs(is_road(ASKED, ALL, thing, value), is_slow_road(ASKED, ALL, thing, value), value)

    def test_one_is_not_true(self):
        road = road_to(ASKED, ALL, ("web", "small"))
        self.assertEqual(road[-1][0], ((("web",), ONE), (("web", "fast"), True)))
        other = road[:-1] + ((((("web",), ONE), (("web", "fast"), 1)), ("web", "small")),)
        self.assertEqual(road, other)
        self.assertIs(is_road(ASKED, ALL, ("web", "small"), other), False)

    def test_other_versions_and_things(self):
        road = road_to(ASKED, ALL, ("log",))
        self.assertIs(is_road(ASKED, {"web": TWO}, ("log",), road), False)
        self.assertIs(is_road(ASKED, {}, ("log",), road), False)
        self.assertIs(is_road(ASKED, ALL, ("net",), road), False)
        self.assertIs(is_road(RING, ALL, ("log",), road), False)

    def test_any_value(self):
        for value in values():
            self.assertIs(is_road(ASKED, ALL, ("log",), value), False)


class TestShut(unittest.TestCase):
    def test_all_lots(self):
        for case, choice in itertools.chain(itertools.islice(pairs(40), 0, None, 3), [(RING, ALL), (ASKED, ALL), (RING, {})]):
            things = slow.things(case)[:6]
            for many in range(len(things) + 1):
                for value in itertools.combinations(things, many):
                    self.assertIs(is_shut(case, choice, value), is_slow_shut(case, choice, value))

    def test_greatest_shut_lot(self):
        for case, choice in pairs(150):
            lot = unreached(case, choice)
            self.assertIs(calls_alike(self, is_shut, case, choice, lot), True)
            self.assertIs(is_shut(case, choice, ()), True)
            for thing in reach(case, choice):
                self.assertIs(is_shut(case, choice, tuple(sorted(lot + (thing,)))), False)

    def test_bent_lots(self):
        lot = unreached(RING, ALL)
        for value in bent(lot) + [lot[::-1], lot + lot, list(lot)]:
            self.assertIs(is_shut(RING, ALL, value), is_slow_shut(RING, ALL, value), value)

    def test_any_value(self):
        for value in values():
            self.assertIs(is_shut(RING, ALL, value), same(value, ()), repr(value)[:80])

    def test_things_of_the_case_alone(self):
        self.assertIs(is_shut(RING, ALL, (("other",),)), False)
        self.assertIs(is_shut(RING, ALL, (("log", "other"),)), False)


if __name__ == "__main__":
    unittest.main()
