"""[25] and, of [7], that axioms hold: against the definitions told slowly, and in all plans."""

import random
import unittest

from packsworn.axioms import axiom_clause, loop_for, plain_axioms
from packsworn.clauses import clause_holds
from tests import papers, slow
from tests.kinds import bent, calls_alike, same, values
from tests.samples import EVERY, ONE, THREE, TWO, full_case, full_pack
from tests.small import EARLY, EMPTY, LATE, asked, case_of, cases, pack, rows


def some_things(chance, case):
    """Return a lot of variables of a case, at least one."""
    told = sorted(papers.variables(case))
    return tuple(sorted(chance.sample(told, chance.randint(1, min(4, len(told))))))


def some_picks(chance, case, things):
    """Return a lot of picks: most often one of each support, and perhaps some more, or one less."""
    picks = [chance.choice(sorted(conditions)) for conditions in papers.outside(case, things) if conditions]
    told = papers.variables(case)
    for _ in range(chance.choice([0, 0, 1, 2])):
        variable = chance.choice(sorted(told))
        picks.append((variable, chance.choice(told[variable])))
    if picks and chance.random() < 0.2:
        picks.pop(0)
    return tuple(sorted(set(picks), key=papers.order))


def some_loop(chance, case):
    things = some_things(chance, case)
    return ("loop", things, chance.choice(things), some_picks(chance, case, things))


def loop_told(case, plan, things, thing):
    """Return what loop_for is to return."""
    picks = []
    for conditions in papers.outside(case, things):
        left = [one for one in sorted(conditions) if not same(papers.gives(plan, one[0]), one[1])]
        if not left:
            return None
        picks.append(left[0])
    return ("loop", things, thing, tuple(sorted(set(picks))))


class TestPlain(unittest.TestCase):
    def test_against_the_definitions(self):
        kinds = set()
        for case, _, axioms in rows() + [(full_case(), [], papers.axioms(full_case()))]:
            found = calls_alike(self, plain_axioms, case)
            self.assertTrue(same(found, sorted(axioms)))
            kinds |= {name[0] for name in found}
            for name in found:
                self.assertTrue(same(axiom_clause(case, name), axioms[name]), name)
        self.assertEqual(kinds, {"range", "feature", "default", "also", "known", "absent", "peer", "bar", "clash", "withdrawn"})

    def test_each_holds_in_each_plan(self):
        many = 0
        for case, plans, axioms in rows():
            for plan in plans:
                for name in axioms:
                    self.assertIs(clause_holds(axiom_clause(case, name), plan), True, (case, plan, name))
                    many += 1
        self.assertGreater(many, 4000)

    def test_by_hand(self):
        app = pack("app", ONE, (("lib", LATE, ("f",), False),), (("lib", EARLY),), (("old", ((ONE, (1, 0, 1)),)),),
                   (("g", ("h",), (("lib", EVERY, (), True),)), ("h", (), ())), ("g",))
        lib = [pack("lib"), pack("lib", TWO, features=(("f", (), ()), ("k", (), ())), defaults=("k",))]
        case = case_of([app] + lib + [pack("old"), pack("old", TWO)], asked("app"), (("lib", ONE), ("old", ONE)),
                       {"old": (ONE, ()), "lib": (TWO, ())})
        line, off = ("need", "app", ONE, 0), (("app",), (None,))
        told = {
            ("range", ("wish", 0)): ((("app",), (ONE,)),),
            ("range", line): (off, (("lib",), (TWO,))),
            ("range", ("extra", "app", ONE, "g", 0)): (off, (("app", "g"), (False,)), (("lib",), (ONE, TWO))),
            ("feature", line, "f"): (off, (("lib", "f"), (True,))),
            ("default", line, TWO, "k"): (off, (("lib",), (None, ONE)), (("lib", "k"), (True,))),
            ("also", "app", ONE, "g", "h"): (off, (("app", "g"), (False,)), (("app", "h"), (True,))),
            ("known", "lib", ONE, "k"): ((("lib",), (None, TWO)), (("lib", "k"), (False,))),
            ("absent", "app", "g"): ((("app",), (ONE,)), (("app", "g"), (False,))),
            ("peer", "app", ONE, 0): (off, (("lib",), (ONE,))),
            ("bar", "app", ONE, 0): (off, (("old",), (None, TWO))),
            ("withdrawn", "lib", ONE): ((("lib",), (None, TWO)),),
        }
        for name, its in told.items():
            self.assertTrue(same(calls_alike(self, axiom_clause, case, name), its), name)
            self.assertIn(name, plain_axioms(case))
        for name in (("withdrawn", "old", ONE), ("withdrawn", "old", TWO), ("withdrawn", "app", ONE), ("known", "lib", TWO, "k"),
                     ("default", line, ONE, "k"), ("default", line, TWO, "f"), ("default", ("wish", 0), ONE, "g")):
            self.assertIsNone(axiom_clause(case, name), name)
            self.assertNotIn(name, plain_axioms(case))

    def test_clash(self):
        for one, other, so in (("p", "p", True), ("p", "p/q", True), ("p/q", "p", True), ("p", "pq", False)):
            case = case_of([pack("a", files=((one, ""),)), pack("a", TWO, files=((one, ""),)), pack("b", THREE, files=((other, ""),))], ())
            its = ((("a",), (None, TWO)), (("b",), (None,))) if so else None
            self.assertEqual(axiom_clause(case, ("clash", "a", ONE, "b", THREE)), its)
            self.assertIsNone(axiom_clause(case, ("clash", "b", THREE, "a", ONE)))
            self.assertIsNone(axiom_clause(case, ("clash", "a", ONE, "a", TWO)))
            self.assertIsNone(axiom_clause(case, ("clash", "a", ONE, "a", ONE)))

    def test_name_that_no_pack_has(self):
        case = case_of([pack("a", needs=(("c", EVERY, ("f",), True),))], asked("b", "a"))
        self.assertEqual(axiom_clause(case, ("range", ("wish", 0))), ())
        self.assertEqual(axiom_clause(case, ("range", ("need", "a", ONE, 0))), ((("a",), (None,)),))
        self.assertTrue(same(axiom_clause(case, ("absent", "c", "f")), ((("c", "f"), (False,)),)))

    def test_pack_that_needs_itself(self):
        own = (("a", LATE, ("f",), False),)
        case = case_of([pack("a", needs=own), pack("a", TWO, own, features=(("f", (), ()),), defaults=("f",))], ())
        told = {("need", "a", ONE, 0): (None, TWO), ("need", "a", TWO, 0): (None, ONE, TWO)}
        for line, options in told.items():
            self.assertTrue(same(axiom_clause(case, ("range", line)), ((("a",), options),)))
        self.assertTrue(same(axiom_clause(case, ("feature", ("need", "a", TWO, 0), "f")), ((("a",), (None, ONE)), (("a", "f"), (True,)))))
        self.assertTrue(same(axiom_clause(case, ("default", ("need", "a", TWO, 0), TWO, "f")),
                             ((("a",), (None, ONE)), (("a", "f"), (True,)))))
        self.assertTrue(same(axiom_clause(case, ("default", ("need", "a", ONE, 0), TWO, "f")),
                             ((("a",), (None, ONE, TWO)), (("a", "f"), (True,)))))

    def test_feature_that_calls_itself(self):
        case = case_of([pack("a", features=(("f", ("f", "g"), ()), ("g", ("f",), ())))], ())
        self.assertTrue(same(axiom_clause(case, ("also", "a", ONE, "f", "f")), ((("a",), (None,)), (("a", "f"), (False, True)))))

    def test_peer_and_bar_of_the_pack_itself(self):
        case = case_of([pack("a", peers=(("a", LATE),), bars=(("a", EARLY), ("a", LATE))), pack("a", TWO)], ())
        self.assertEqual(axiom_clause(case, ("peer", "a", ONE, 0)), ((("a",), (None, TWO)),))
        self.assertEqual(axiom_clause(case, ("bar", "a", ONE, 0)), ((("a",), (None, TWO)),))
        self.assertEqual(axiom_clause(case, ("bar", "a", ONE, 1)), ((("a",), (None, ONE, TWO)),))

    def test_no_axioms(self):
        self.assertEqual([plain_axioms(EMPTY), axiom_clause(EMPTY, ("range", ("wish", 0)))], [[], None])


class TestLoops(unittest.TestCase):
    def test_any_lots(self):
        seen = {True: 0, False: 0}
        for seed, (case, plans, _) in enumerate(rows()):
            chance = random.Random(seed)
            for _ in range(12 if papers.variables(case) else 0):
                name = some_loop(chance, case)
                its = papers.loop(case, name)
                self.assertTrue(same(calls_alike(self, axiom_clause, case, name), its), (case, name))
                seen[its is not None] += 1
                for plan in plans if its is not None else []:
                    self.assertIs(clause_holds(its, plan), True, (case, plan, name))
        self.assertGreater(min(seen.values()), 300)

    def test_loop_for(self):
        seen = {True: 0, False: 0}
        for seed, (case, plans, _) in enumerate(rows()):
            chance = random.Random(seed)
            for _ in range(6 if papers.variables(case) else 0):
                things = some_things(chance, case)
                thing = chance.choice(things)
                versions = {name: slow.options(case, name)[1:] for name in slow.names(case)}
                plan = {name: (chance.choice(versions[name]), tuple(its[1] for its in slow.things(case)
                                                                     if its[0] == name and len(its) == 2 and chance.random() < 0.5))
                        for name in chance.sample(sorted(versions), len(versions)) if versions[name] and chance.random() < 0.7}
                for one in [plan, case[2]] + plans[:2]:
                    name = calls_alike(self, loop_for, case, one, things, thing)
                    self.assertTrue(same(name, loop_told(case, one, things, thing)), (case, one, things))
                    seen[name is not None] += 1
                    if name is not None:
                        self.assertIsNotNone(axiom_clause(case, name))
        self.assertGreater(min(seen.values()), 300)

    def test_what_is_not_reached_has_a_loop(self):
        """All things that a choice does not reach make a loop for each of them, which fails where it is given."""
        many = 0
        for case, _, _ in rows():
            for plan in [case[2], {name: (slow.options(case, name)[-1], ()) for name in slow.names(case) if slow.options(case, name)[1:]}]:
                reached = slow.ranks(case, {name: plan[name][0] for name in plan})
                apart = tuple(thing for thing in slow.things(case) if thing not in reached)
                full = {name: (plan[name][0], tuple(thing[1] for thing in reached if thing[0] == name and len(thing) == 2))
                        for name in plan}
                for thing in apart:
                    name = loop_for(case, full, apart, thing)
                    self.assertIsNotNone(name)
                    if thing[0] in full and len(thing) == 1:
                        self.assertIs(clause_holds(axiom_clause(case, name), full), False)
                        many += 1
        self.assertGreater(many, 50)

    def test_edges(self):
        case = case_of([pack("a", needs=asked("b")), pack("a", TWO, asked("b")), pack("b", needs=asked("a")),
                        pack("c", needs=asked("a"))], asked("c"))
        at_a, at_late, at_c = (("a",), ONE), (("a",), TWO), (("c",), ONE)
        both = (("a",), ("b",))
        self.assertEqual(axiom_clause(case, ("loop", both, ("b",), (at_c,))), ((("b",), (None,)), (("c",), (ONE,))))
        more = (((("a",), None), at_late, at_c))
        self.assertEqual(axiom_clause(case, ("loop", both, ("b",), more)), ((("a",), (None, TWO)), (("b",), (None,)), (("c",), (ONE,))))
        self.assertEqual(axiom_clause(case, ("loop", (("b",),), ("b",), (at_a, at_late))), ((("a",), (ONE, TWO)), (("b",), (None,))))
        bad = [(both, ("b",), ()), (both, ("c",), (at_c,)), (both[::-1], ("b",), (at_c,)), ((("a",), ("a",)), ("a",), (at_c,)),
               ((), ("a",), (at_c,)), ((("b",),), ("b",), (at_a,)), ((("c",),), ("c",), (at_a, at_c)), (both, ("b",), (at_c, at_a)),
               (both, ("b",), (at_c, at_c)), (both, ("b",), (at_c, (("c",), TWO))), (both, ("b",), (at_c, (("z",), None))),
               ((("a",), ("z",)), ("a",), (at_c,)), (both, ("b",), (at_c, (("c",), False))), (both, ("b",), [at_c]),
               (list(both), ("b",), (at_c,)), (both, ["b"], (at_c,)), (both, ("b",), (list(at_c),)), (both, ("b",), (((("c",), [1, 0, 0])),)),
               (both, ("b",), (at_c, None)), (both, ("b",), ((("c",), (True, 0, 0)),)), (both, ("b",))]
        for parts in bad:
            self.assertIsNone(axiom_clause(case, ("loop",) + parts), parts)
        self.assertIsNone(loop_for(case, {"c": (ONE, ())}, both, ("a",)))
        self.assertEqual(loop_for(case, {}, both, ("a",)), ("loop", both, ("a",), (at_c,)))
        self.assertEqual(loop_for(case, {}, (("c",),), ("c",)), None)

    def test_features(self):
        loud = pack("a", features=(("f", ("g",), ()), ("g", ("f",), ())))
        case = case_of([loud, pack("b", needs=(("a", EVERY, ("g",), True),))], asked("a"))
        things, pick = (("a", "f"), ("a", "g")), (("b",), ONE)
        its = ((("a", "f"), (False,)), (("b",), (ONE,)))
        self.assertTrue(same(axiom_clause(case, ("loop", things, ("a", "f"), (pick,))), its))
        self.assertTrue(same(axiom_clause(case, ("loop", things[:1], ("a", "f"), ((("a", "g"), True),))), ((("a", "f"), (False,)), (("a", "g"), (True,)))))
        self.assertTrue(same(axiom_clause(case, ("loop", things[:1], ("a", "f"), ((("a",), ONE), (("a", "g"), False)))),
                             ((("a",), (ONE,)), (("a", "f"), (False,)), (("a", "g"), (False,)))))
        for picks in (((("a", "g"), 1),), ((("a", "g"), False),), ((("a", "g"), None),)):
            self.assertIsNone(axiom_clause(case, ("loop", things[:1], ("a", "f"), picks)))
        self.assertEqual(loop_for(case, {"a": (ONE, ())}, things[:1], ("a", "f")), ("loop", things[:1], ("a", "f"), ((("a", "g"), True),)))
        self.assertEqual(loop_for(case, {}, things[:1], ("a", "f")), ("loop", things[:1], ("a", "f"), ((("a",), ONE),)))

    def test_loop_without_any_support(self):
        case = case_of([pack("a")], ())
        self.assertEqual(axiom_clause(case, ("loop", (("a",),), ("a",), ())), ((("a",), (None,)),))
        self.assertEqual(loop_for(case, {"a": (ONE, ())}, (("a",),), ("a",)), ("loop", (("a",),), ("a",), ()))


class TestNoAxioms(unittest.TestCase):
    def test_bent_names(self):
        seen = {True: 0, False: 0}
        for seed, (case, _, axioms) in list(enumerate(rows()))[::4]:
            chance = random.Random(seed)
            names = chance.sample(sorted(axioms), min(3, len(axioms)))
            if papers.variables(case):
                names.append(some_loop(chance, case))
            for name in names:
                for value in bent(name):
                    told = axiom_clause(case, value)
                    self.assertTrue(same(told, papers.axiom(case, value, axioms)), value)
                    seen[told is not None] += 1
        self.assertGreater(seen[True], 20)
        self.assertGreater(seen[False], 5000)

    def test_of_other_cases(self):
        pairs = rows()
        for at, (case, _, axioms) in enumerate(pairs):
            for name in list(pairs[at - 1][2])[::3]:
                self.assertTrue(same(axiom_clause(case, name), papers.axiom(case, name, axioms)), name)

    def test_not_in_the_case(self):
        case = case_of([full_pack()], asked("app", "lib"), (("app", ONE),))
        need, extra = ("need", "app", ONE, 0), ("extra", "app", ONE, "fast", 0)
        good = [("range", need), ("feature", need, "a"), ("range", extra), ("feature", extra, "deep"), ("range", ("wish", 1)),
                ("also", "app", ONE, "fast", "small"), ("known", "app", ONE, "zz"), ("absent", "lib", "a"), ("peer", "app", ONE, 0),
                ("bar", "app", ONE, 1), ("withdrawn", "app", ONE)]
        self.assertEqual([axiom_clause(case, name) is None for name in good], [name[0] == "known" for name in good])
        for value in (("range", ("wish", 2)), ("range", ("wish", -1)), ("range", ("wish", True)), ("range", ("wish", False)),
                      ("range", ("need", "app", TWO, 0)), ("range", ("need", "app", ONE, 2)), ("range", ("need", "zip", ONE, 0)),
                      ("range", ("need", "app", (True, 0, 0), 0)), ("range", ("need", "app", ONE, False)), ("range", "need"),
                      ("range", ("extra", "app", ONE, "small", 0)), ("range", ("extra", "app", ONE, "fast", 2)), ("range", need, 0),
                      ("feature", need, "c"), ("feature", need), ("feature", need, None), ("also", "app", ONE, "small", "fast"),
                      ("also", "app", ONE, "fast", "fast"), ("also", "app", TWO, "fast", "small"), ("known", "app", ONE, "fast"),
                      ("known", "lib", ONE, "a"), ("absent", "app", "zz"), ("absent", "zz", "fast"), ("peer", "app", ONE, 1),
                      ("peer", "app", ONE, -1), ("peer", "app", ONE, False), ("bar", "app", ONE, 2), ("bar", "app", ONE, True),
                      ("withdrawn", "app", TWO), ("withdrawn", "app", [1, 0, 0]), ["range", need], ("range", list(need)), ("range",),
                      ("peers", "app", ONE, 0), (), ("peer", "app", ONE, 10 ** 39), ("default", need, ONE, "a")):
            self.assertIsNone(axiom_clause(case, value), value)

    def test_any_value(self):
        for case in (EMPTY, full_case()):
            axioms = papers.axioms(case)
            for value in values():
                for one in (value, (value,), ("range", value), ("absent", "app", value), ("peer", "app", ONE, value),
                            ("loop", value, value, value), ("loop", (("app",),), ("app",), value), (value, "app", ONE, 0)):
                    self.assertTrue(same(axiom_clause(case, one), papers.axiom(case, one, axioms)), repr(one)[:80])


if __name__ == "__main__":
    unittest.main()
