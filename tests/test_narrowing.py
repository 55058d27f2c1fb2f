"""[27]: narrowing, against a reading that goes round until nothing changes."""

import random
import unittest

from packsworn.narrowing import domains_of, is_narrowed, liked, narrowed, sequence_of
from tests import papers, slow
from tests.kinds import bent, calls_alike, same, values
from tests.samples import EVERY, ONE, THREE, TWO
from tests.small import EMPTY, LATE, asked, case_of, pack, rows


def chosen():
    """Return (case, plans, axioms, choices, chance) for some choices of each small case."""
    found = []
    for at, (case, plans, axioms) in enumerate(rows()):
        chance = random.Random(at)
        for most in (0, 1, 2, 3, 99):
            found.append((case, plans, axioms, papers.some_choices(chance, case, most), chance))
    return found


def as_told(value):
    """Return what slow narrowing found as narrowed returns it."""
    domains, trail, failed = value
    return {variable: tuple(domains[variable]) for variable in domains}, tuple(trail), failed


class TestLikings(unittest.TestCase):
    def test_sequence(self):
        for case, _, _ in rows():
            wanted = [(name,) for name in slow.row(case)] + [thing for thing in slow.things(case) if len(thing) == 2]
            self.assertTrue(same(calls_alike(self, sequence_of, case), tuple(wanted)))

    def test_sequence_by_hand(self):
        packs = [pack("a", features=(("z", (), ()), ("y", (), ()))), pack("b", needs=(("c", EVERY, ("x",), True),))]
        case = case_of([pack("a", features=(("y", (), ()), ("z", (), ()))), packs[1]], asked("c", "b", "c"))
        self.assertEqual(sequence_of(case), (("c",), ("b",), ("a",), ("a", "y"), ("a", "z"), ("c", "x")))

    def test_liked(self):
        for case, _, _ in rows():
            for variable, options in papers.variables(case).items():
                found = calls_alike(self, liked, case, variable)
                self.assertTrue(same(tuple(sorted(found, key=papers.order)), tuple(options)))
                if len(variable) == 2:
                    self.assertTrue(same(found, (False, True)))
                else:
                    self.assertTrue(all(slow.is_liked_better(case, variable[0], one, other)
                                        for one, other in zip(found, found[1:])))

    def test_domains(self):
        for case, _, _, choices, _ in chosen():
            found = calls_alike(self, domains_of, case, choices)
            wanted = {variable: tuple(options) for variable, options in papers.domains(case, choices).items()}
            self.assertTrue(same(found, wanted))
            self.assertEqual(list(found), sorted(found))


class TestNarrowed(unittest.TestCase):
    def test_against_the_slow_reading(self):
        seen = {True: 0, False: 0, "trail": 0}
        for case, plans, axioms, choices, chance in chosen():
            found = calls_alike(self, narrowed, case, choices)
            domains, trail, failed = found
            slowly = papers.narrowed(case, choices, chance)
            self.assertEqual(failed is None, slowly[2] is None, (case, choices))
            if failed is None:
                self.assertTrue(same(domains, as_told(slowly)[0]))
            self.assertEqual(list(domains), sorted(domains))
            self.assertIs(papers.is_narrowed(case, choices, found, axioms), True)
            self.assertIs(calls_alike(self, is_narrowed, case, choices, found), True)
            self.assertIs(is_narrowed(case, choices, as_told(slowly)), True)
            seen[failed is None] += 1
            seen["trail"] += len(trail)
            for plan in plans:
                if papers.is_kept(choices, plan):
                    self.assertIsNone(failed)
                    self.assertTrue(all(papers.gives(plan, variable) in domains[variable] for variable in domains))
        self.assertGreater(min(seen.values()), 200)

    def test_choices_in_any_order(self):
        for case, _, _, choices, _ in chosen():
            turned = {variable: choices[variable] for variable in reversed(list(choices))}
            self.assertTrue(same(narrowed(case, turned), narrowed(case, choices)))

    def test_by_hand(self):
        case = case_of([pack("a", needs=(("b", LATE, ("f",), True),)), pack("b"), pack("b", TWO, features=(("f", (), ()),))], asked("a"))
        domains, trail, failed = narrowed(case, {})
        self.assertTrue(same(domains, {("a",): (ONE,), ("b",): (TWO,), ("b", "f"): (True,)}))
        self.assertIsNone(failed)
        self.assertEqual(sorted(trail)[:2], [(("a",), ("range", ("wish", 0))), (("b",), ("range", ("need", "a", ONE, 0)))])
        self.assertEqual(narrowed(case, {("a",): None})[2], ("range", ("wish", 0)))
        self.assertTrue(same(narrowed(EMPTY, {}), ({}, (), None)))

    def test_choice_against_an_axiom_of_one_name(self):
        """A choice stands ahead of all narrowing: what is chosen never goes."""
        case = case_of([pack("a"), pack("a", TWO)], (("a", LATE, (), True),))
        self.assertEqual(narrowed(case, {("a",): ONE}), ({("a",): (ONE,)}, (), ("range", ("wish", 0))))

    def test_empty_axiom(self):
        case = case_of([pack("b")], asked("a"))
        self.assertEqual(narrowed(case, {})[2], ("range", ("wish", 0)))
        self.assertIs(is_narrowed(case, {}, ({("a",): (None,), ("b",): (None, ONE)}, (), ("range", ("wish", 0)))), True)


class TestIsNarrowed(unittest.TestCase):
    def test_bent(self):
        seen = {True: 0, False: 0}
        for case, _, axioms, choices, chance in chosen()[::43]:
            if len(axioms) > 12:
                continue
            for found in (narrowed(case, choices), as_told(papers.narrowed(case, choices, chance))):
                for value in bent(found):
                    told = is_narrowed(case, choices, value)
                    self.assertIs(told, papers.is_narrowed(case, choices, value, axioms), value)
                    seen[told] += 1
        self.assertGreater(seen[False], 2000)

    def test_beyond_one_that_fails(self):
        """Axioms may narrow while another one fails that was not met yet."""
        case = case_of([pack("a"), pack("b"), pack("b", TWO)], (("a", LATE, (), True), ("b", LATE, (), True)))
        self.assertEqual(papers.axioms(case)[("range", ("wish", 0))], ())
        first, second = ("range", ("wish", 0)), ("range", ("wish", 1))
        wide, tight = {("a",): (None, ONE), ("b",): (None, ONE, TWO)}, {("a",): (None, ONE), ("b",): (TWO,)}
        step = ((("b",), second),)
        for value, wanted in (((wide, (), first), True), ((tight, step, first), True), ((tight, step, None), False),
                              ((wide, (), None), False), ((wide, (), second), False), ((wide, step, first), False),
                              ((tight, (), first), False), ((tight, step + step, first), False), ((tight, ((("a",), second),), first), False)):
            self.assertIs(is_narrowed(case, {}, value), wanted, value)

    def test_not_at_rest(self):
        case = case_of([pack("a")], asked("a"))
        domains, trail, failed = narrowed(case, {})
        self.assertEqual([domains, len(trail), failed], [{("a",): (ONE,)}, 1, None])
        self.assertIs(is_narrowed(case, {}, ({("a",): (None, ONE)}, (), None)), False)
        self.assertIs(is_narrowed(case, {("a",): ONE}, (domains, trail, failed)), False)
        self.assertIs(is_narrowed(case, {("a",): ONE}, (domains, (), None)), True)

    def test_loops_do_not_narrow(self):
        case = case_of([pack("a"), pack("b")], asked("b"))
        domains, trail, _ = narrowed(case, {})
        loop = ("loop", (("a",),), ("a",), ())
        self.assertIs(is_narrowed(case, {}, (domains, trail, None)), True)
        self.assertIs(is_narrowed(case, {}, ({**domains, ("a",): (None,)}, trail + ((("a",), loop),), None)), False)
        self.assertIs(is_narrowed(case, {("a",): ONE}, ({**domains, ("a",): (ONE,)}, trail, loop)), False)

    def test_truths_and_keys(self):
        case = case_of([pack("a", features=(("f", (), ()),))], asked("a"))
        domains, trail, failed = narrowed(case, {("a", "f"): True})
        self.assertTrue(same(domains, {("a",): (ONE,), ("a", "f"): (True,)}))
        self.assertIs(is_narrowed(case, {("a", "f"): True}, ({("a", "f"): (True,), ("a",): (ONE,)}, trail, failed)), True)
        for other in ({("a",): (ONE,), ("a", "f"): (1,)}, {("a",): ((True, 0, 0),), ("a", "f"): (True,)}, {("a",): (ONE,)},
                      {("a",): [ONE], ("a", "f"): (True,)}, {**domains, ("b",): (None,)}, {**domains, 1: 2}, {},
                      {("a",): (ONE, ONE), ("a", "f"): (True,)}, [], None):
            self.assertIs(is_narrowed(case, {("a", "f"): True}, (other, trail, failed)), False, other)

    def test_any_value(self):
        case = case_of([pack("a"), pack("a", TWO)], asked("a"))
        found = narrowed(case, {})
        for value in values():
            for one in (value, (value,) + found[1:], found[:1] + (value,) + found[2:], found[:2] + (value,),
                        found[:1] + ((value,),) + found[2:], (found[0], ((("a",), value),), None), ({("a",): value},) + found[1:]):
                self.assertIs(is_narrowed(case, {}, one), same(one, found), repr(one)[:80])


if __name__ == "__main__":
    unittest.main()
