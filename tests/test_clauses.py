"""[24]: variables, options and clauses, against the definitions told slowly."""

import random
import unittest

from packsworn.clauses import clause_holds, gives, is_clause, joined, made_clause, options_of, variables_of
from tests import papers, slow
from tests.kinds import bent, calls_alike, same, values
from tests.samples import EVERY, ONE, THREE, TWO, full_case, full_pack
from tests.small import asked, case_of, cases, pack, rows

CASES = [full_case()] + cases()


def some_rows(chance, case, many):
    """Return rows of variables with options, perhaps none, perhaps some twice."""
    told = papers.variables(case)
    picked = [chance.choice(sorted(told)) for _ in range(many if told else 0)]
    return [(variable, tuple(chance.choice(told[variable]) for _ in range(chance.randint(0, 3)))) for variable in picked]


def some_clause(chance, case):
    return papers.clause(some_rows(chance, case, chance.randint(0, 4)))


def some_dict(chance, case):
    """Return a dict of the form of a plan, of names and features of a case or others."""
    found = {}
    for name in chance.sample(slow.names(case) + ["zz"], chance.randint(0, len(slow.names(case)) + 1)):
        features = [thing[1] for thing in slow.things(case) if thing[0] == name and len(thing) == 2] + ["zz"]
        versions = [option for option in slow.options(case, name) if option] + [(9, 9, 9)]
        found[name] = chance.choice(versions), tuple(sorted(chance.sample(features, chance.randint(0, len(features)))))
    return found


class TestVariables(unittest.TestCase):
    def test_against_the_listing(self):
        for case in CASES:
            told = papers.variables(case)
            self.assertTrue(same(calls_alike(self, variables_of, case), tuple(sorted(told))))
            for variable in told:
                self.assertTrue(same(calls_alike(self, options_of, case, variable), tuple(told[variable])))

    def test_features_from_everywhere(self):
        one = pack("a", needs=(("b", EVERY, ("n",), True),), peers=(("p", EVERY),), bars=(("q", EVERY),),
                   features=(("f", (), (("c", (), ("e",), True),)),))
        case = case_of([one, pack("a", TWO, features=(("g", (), ()),))], (("a", EVERY, ("w",), True),), lock={"z": (ONE, ("y",))})
        self.assertEqual(variables_of(case), (("a",), ("a", "f"), ("a", "g"), ("a", "w"), ("b",), ("b", "n"), ("c",),
                                              ("c", "e"), ("p",), ("q",)))
        self.assertTrue(same([options_of(case, ("a",)), options_of(case, ("b",)), options_of(case, ("a", "w"))],
                             [(None, ONE, TWO), (None,), (False, True)]))

    def test_gives(self):
        plan = {"b": (ONE, ("f", "g")), "a": (TWO, ())}
        told = [calls_alike(self, gives, plan, variable) for variable in (
            ("a",), ("a", "f"), ("b",), ("b", "f"), ("b", "h"), ("c",), ("c", "f"))]
        self.assertTrue(same(told, [TWO, False, ONE, True, False, None, False]))


class TestClauses(unittest.TestCase):
    def test_made_and_joined(self):
        for seed, case in enumerate(CASES):
            chance = random.Random(seed)
            for _ in range(4):
                told = some_rows(chance, case, chance.randint(0, 6))
                for given in (told, tuple(told)):
                    self.assertTrue(same(calls_alike(self, made_clause, given), papers.clause(told)))
                one, other = some_clause(chance, case), some_clause(chance, case)
                for variable in [variable for variable in dict(one) if variable in dict(other)]:
                    found = calls_alike(self, joined, one, other, variable)
                    self.assertTrue(same(found, papers.join(one, other, variable)))
                    self.assertTrue(same(found, joined(other, one, variable)))

    def test_made_clause_by_hand(self):
        self.assertEqual(made_clause([]), ())
        self.assertEqual(made_clause([(("a",), ()), (("b", "f"), ())]), ())
        told = made_clause(((("b", "f"), (True,)), (("a",), (TWO, None)), (("b", "f"), (False, True)), (("a",), (ONE, TWO))))
        self.assertTrue(same(told, ((("a",), (None, ONE, TWO)), (("b", "f"), (False, True)))))

    def test_join_by_hand(self):
        one, other = ((("a",), (None, ONE)), (("b",), (TWO,))), ((("a",), (ONE, TWO)), (("a", "f"), (True,)), (("b",), (None,)))
        self.assertTrue(same(joined(one, other, ("a",)), ((("a",), (ONE,)), (("a", "f"), (True,)), (("b",), (None, TWO)))))
        self.assertTrue(same(joined(one, other, ("b",)), ((("a",), (None, ONE, TWO)), (("a", "f"), (True,)))))
        self.assertEqual(joined(one, one, ("a",)), one)
        self.assertEqual(joined(((("a",), (ONE,)),), ((("a",), (None,)),), ("a",)), ())
        self.assertTrue(same(joined(((("a", "f"), (False,)),), ((("a", "f"), (False, True)),), ("a", "f")),
                             ((("a", "f"), (False,)),)))

    def test_holds(self):
        seen = set()
        for seed, case in enumerate(CASES):
            chance = random.Random(seed)
            for _ in range(5):
                its, plan = some_clause(chance, case), some_dict(chance, case)
                told = calls_alike(self, clause_holds, its, plan)
                self.assertIs(told, papers.holds(its, plan))
                seen.add(told)
        self.assertEqual(seen, {True, False})
        self.assertIs(clause_holds((), {"a": (ONE, ())}), False)
        self.assertIs(clause_holds(((("a",), (None,)),), {}), True)
        self.assertIs(clause_holds(((("a", "f"), (False,)),), {}), True)

    def test_where_both_hold_the_join_holds(self):
        many = 0
        for seed, case in enumerate(CASES):
            chance = random.Random(seed)
            for _ in range(6):
                one, other, plan = some_clause(chance, case), some_clause(chance, case), some_dict(chance, case)
                if clause_holds(one, plan) and clause_holds(other, plan):
                    for variable in [variable for variable in dict(one) if variable in dict(other)]:
                        self.assertIs(clause_holds(joined(one, other, variable), plan), True)
                        many += 1
        self.assertGreater(many, 100)


class TestIsClause(unittest.TestCase):
    def test_clauses(self):
        for seed, case in enumerate(CASES):
            chance = random.Random(seed)
            for _ in range(4):
                self.assertIs(calls_alike(self, is_clause, case, some_clause(chance, case)), True)
            whole = tuple((variable, tuple(options)) for variable, options in sorted(papers.variables(case).items()))
            self.assertIs(is_clause(case, whole), True)

    def test_axioms(self):
        for case, _, axioms in rows():
            for its in axioms.values():
                self.assertIs(is_clause(case, its), True)

    def test_bent(self):
        seen = set()
        for seed, case in list(enumerate(CASES))[::6]:
            chance = random.Random(seed)
            for value in bent(some_clause(chance, case)):
                self.assertIs(is_clause(case, value), papers.is_clause(case, value), value)
                seen.add(is_clause(case, value))
        self.assertEqual(seen, {True, False})

    def test_by_hand(self):
        case = case_of([pack("a", features=(("f", (), ()),)), pack("a", TWO)], asked("a", "b"))
        for value in ((), ((("a",), (None, ONE, TWO)),), ((("a", "f"), (False, True)),), ((("b",), (None,)),),
                      ((("a",), (ONE,)), (("a", "f"), (True,)), (("b",), (None,)))):
            self.assertIs(is_clause(case, value), True, value)
        for value in (((("a",), ()),), ((("a",), (ONE, None)),), ((("a",), (ONE, ONE)),), ((("a",), (THREE,)),),
                      ((("a",), [ONE]),), [(("a",), (ONE,))], ((["a"], (ONE,)),), ([("a",), (ONE,)],), (("a", (ONE,)),),
                      ((("a", "f"), (1,)),), ((("a", "f"), (0, 1)),), ((("a", "f"), (0,)),), ((("a", "f"), (True, False)),),
                      ((("a", "f"), (None,)),), ((("a", "g"), (True,)),), ((("b", "f"), (True,)),), ((("c",), (None,)),),
                      ((("a",), ((True, 0, 0),)),), ((("a",), (False,)),), ((("a",), (True,)),), ((("b",), (ONE,)),),
                      ((("b",), (None,)), (("a",), (ONE,))), ((("a",), (ONE,)), (("a",), (TWO,))), ((("a",), (ONE,), ()),),
                      ((("a",),),), ((("a",), ONE),), ((("a", "f", "f"), (True,)),), (((), (True,)),), (("a",), (ONE,)),
                      ((("a",), ([1, 0, 0],)),), {("a",): (ONE,)}, None, True, 0):
            self.assertIs(is_clause(case, value), False, value)

    def test_any_value(self):
        case = case_of([full_pack()], asked("app"))
        for value in values():
            for one in (value, (value,), ((value, (True,)),), ((("app",), value),), ((("app",), (value,)),)):
                self.assertIs(is_clause(case, one), same(one, ()) or same(one, ((("app",), (None,)),)), repr(one)[:80])


if __name__ == "__main__":
    unittest.main()
