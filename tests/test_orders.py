"""[36]: orders of installing, rounds and chains, against a slow listing straight from the definitions."""

import itertools
import unittest

from packsworn.orders import install_order, is_chain, is_install_order, longest_chain, rounds
from tests import nets
from tests.kinds import bent, calls_alike, same, values
from tests.samples import EVERY, ONE, TWO
from tests.small import EMPTY, asked, case_of, pack, rows
from tests.test_whys import PLANS, turned

RING = case_of([pack("a", needs=asked("b", "d")), pack("b", needs=asked("c")), pack("c", needs=asked("b", "e")), pack("d", needs=asked("e")),
                pack("e", needs=asked("e"))], asked("a"))
ALL = {name: (ONE, ()) for name in "abcde"}
A_B, A_D, B_C, C_B, C_E, D_E, E_E = [("need", "a", ONE, 0), ("need", "a", ONE, 1), ("need", "b", ONE, 0), ("need", "c", ONE, 0),
                                     ("need", "c", ONE, 1), ("need", "d", ONE, 0), ("need", "e", ONE, 0)]


class TestOrders(unittest.TestCase):
    def test_against_the_listing(self):
        for case, plan in PLANS:
            wanted = nets.least_order(case, plan)
            self.assertTrue(same(calls_alike(self, install_order, case, plan), wanted))
            self.assertTrue(same(install_order(case, turned(plan)), wanted))
            self.assertIs(calls_alike(self, is_install_order, case, plan, wanted), True)

    def test_all_orders(self):
        """Of all orders of the groups the least that is an install order is the one returned."""
        seen = {True: 0, False: 0}
        for case, plan in PLANS:
            groups = nets.groups(case, plan)
            if 1 < len(groups) <= 4:
                good = []
                for row in itertools.permutations(groups):
                    told = is_install_order(case, plan, row)
                    self.assertIs(told, nets.is_order(case, plan, row))
                    seen[told] += 1
                    good += [row] if told else []
                self.assertTrue(same(min(good), install_order(case, plan)))
        self.assertGreater(min(seen.values()), 100)

    def test_by_hand(self):
        self.assertEqual(install_order(RING, ALL), (("e",), ("b", "c"), ("d",), ("a",)))
        self.assertEqual([install_order(RING, {}), is_install_order(RING, {}, ()), install_order(EMPTY, {})], [(), True, ()])
        good = (("e",), ("d",), ("b", "c"), ("a",))
        self.assertIs(is_install_order(RING, ALL, good), True)
        for value in (good[:-1], good + good[:1], good[::-1], list(good), (("e",), ("d",), ("c", "b"), ("a",)), (("e",), ("d",), ["b", "c"], ("a",)),
                      (("e",), ("d",), ("b",), ("c",), ("a",)), (("d",), ("e",), ("b", "c"), ("a",)), (("e",), ("b", "c"), ("a",), ("d",)),
                      (("e",), ("e",), ("b", "c"), ("a",)), ("e", "d", "bc", "a"), (("d", "e"), ("b", "c"), ("a",)), good + ((),), (), None,
                      (("e",), ("d",), ("b", "c"), ("z",)), {"e": 0}):
            self.assertIs(is_install_order(RING, ALL, value), False, value)

    def test_bent(self):
        for case, plan in PLANS[::6]:
            order = install_order(case, plan)
            for value in bent(order):
                wanted = type(value) is tuple and all(type(group) is tuple and all(type(name) is str for name in group) for group in value)
                wanted = wanted and sorted(value) == nets.groups(case, plan) and nets.is_order(case, plan, value)
                self.assertIs(is_install_order(case, plan, value), wanted, value)

    def test_any_value(self):
        case = case_of([pack("a")], asked("a"))
        for value in values():
            for one in (value, (value,), ((value,),), (("a",), value)):
                self.assertIs(is_install_order(case, {"a": (ONE, ())}, one), same(one, (("a",),)), repr(one)[:80])
                self.assertIs(is_install_order(case, {}, one), same(one, ()), repr(one)[:80])


class TestRounds(unittest.TestCase):
    def test_against_the_listing(self):
        many = set()
        for case, plan in PLANS:
            wanted = nets.rounds(case, plan)
            self.assertTrue(same(calls_alike(self, rounds, case, plan), wanted))
            self.assertTrue(same(rounds(case, turned(plan)), wanted))
            many.add(len(wanted))
        self.assertTrue({0, 1, 2, 3, 4} <= many, many)

    def test_by_hand(self):
        self.assertEqual(rounds(RING, ALL), (("e",), ("b", "c", "d"), ("a",)))
        self.assertEqual([rounds(RING, {}), rounds(case_of([pack("a"), pack("b")], asked("a", "b")), {"b": (ONE, ()), "a": (ONE, ())})],
                         [(), (("a", "b"),)])


class TestChains(unittest.TestCase):
    def test_longest(self):
        many = 0
        for case, plan in PLANS:
            for one in (plan, turned(plan)):
                chain = calls_alike(self, longest_chain, case, one)
                self.assertIs(type(chain), tuple)
                self.assertEqual(len(chain), max(len(nets.rounds(case, plan)) - 1, 0))
                self.assertIs(nets.is_chain(case, plan, chain), True)
                self.assertIs(calls_alike(self, is_chain, case, one, chain), True)
            self.assertTrue(same(chain, longest_chain(case, plan)))
            many += len(chain) > 1
        self.assertGreater(many, 40)

    def test_all_pairs_of_lines(self):
        seen = {True: 0, False: 0}
        for case, plan in PLANS[::3]:
            lines = [line for line, _ in nets.held(case, plan)]
            for pair in itertools.product(lines[:12], repeat=2):
                wanted = nets.is_chain(case, plan, pair)
                self.assertIs(is_chain(case, plan, pair), wanted)
                self.assertIs(is_chain(case, plan, pair[:1]), nets.is_chain(case, plan, pair[:1]))
                seen[wanted] += 1
        self.assertGreater(min(seen.values()), 20)

    def test_by_hand(self):
        for value, wanted in (((), True), ((A_B,), True), ((A_B, C_E), True), ((A_D, D_E), True), ((A_B, D_E), False), ((B_C,), False),
                              ((C_B,), False), ((E_E,), False), ((A_B, B_C, C_E), False), ((C_E, E_E), False), ((C_E, A_B), False),
                              ((("wish", 0), A_B), False), ((("wish", 0),), False), ([A_B], False), ((list(A_B),), False), (A_B, False),
                              ((("need", "a", ONE, 2),), False), ((("need", "a", TWO, 0),), False), ((("need", "a", ONE, False),), False),
                              ((("need", "a", ONE, True),), False), ((("extra", "a", ONE, "f", 0),), False), ((A_B, C_E, None), False)):
            self.assertIs(is_chain(RING, ALL, value), wanted, value)
        self.assertEqual([longest_chain(RING, {}), is_chain(RING, {}, ()), is_chain(RING, {}, (A_B,)), longest_chain(EMPTY, {})], [(), True, False, ()])
        self.assertIn(longest_chain(RING, ALL), [(A_B, C_E), (A_D, D_E)])

    def test_extras(self):
        case = case_of([pack("a", features=(("f", (), asked("b")), ("g", (), asked("b")))), pack("b")], (("a", EVERY, ("f",), True),))
        plan = {"a": (ONE, ("f",)), "b": (ONE, ())}
        line = ("extra", "a", ONE, "f", 0)
        self.assertEqual(longest_chain(case, plan), (line,))
        for value, wanted in (((line,), True), ((("extra", "a", ONE, "g", 0),), False), ((("extra", "a", ONE, "f", False),), False)):
            self.assertIs(is_chain(case, plan, value), wanted)

    def test_bent(self):
        seen = {True: 0, False: 0}
        for case, plan in PLANS[::8]:
            for value in bent(longest_chain(case, plan)):
                wanted = nets.is_chain(case, plan, value)
                self.assertIs(is_chain(case, plan, value), wanted, value)
                seen[wanted] += 1
        self.assertGreater(min(seen.values()), 20)

    def test_any_value(self):
        for value in values():
            for one in (value, (value,), (A_B, value), (("need", "a", ONE, value),)):
                self.assertIs(is_chain(RING, ALL, one), nets.is_chain(RING, ALL, one), repr(one)[:80])


if __name__ == "__main__":
    unittest.main()
