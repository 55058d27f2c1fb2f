"""[30]: which wishes cannot stand together, against asking every lot by going through all choices."""

import itertools
import random
import unittest

from packsworn.cores import bad_lots, blamed, dropped_lots, good_lots, with_wishes
from packsworn.solver import answer, first_plan
from tests import papers, slow
from tests.kinds import calls_alike, same
from tests.large import tight_case, wide_case
from tests.samples import EVERY, ONE, TWO
from tests.small import EARLY, EMPTY, LATE, asked, case_of, pack, rows
from tests.test_judge import derivations


def lots(many):
    return [lot for size in range(many + 1) for lot in itertools.combinations(range(many), size)]


def asked_alone(case, lot):
    registry, wish, lock, mode = case
    return registry, tuple(wish[at] for at in lot), lock, mode


def standing(case):
    """Return the dict from all lots to whether there is a plan."""
    return {lot: bool(slow.plans(asked_alone(case, lot))) for lot in lots(len(case[1]))}


def check(test, case):
    """Check the lots of a case; return those that are bad."""
    stands = standing(case)
    bad = sorted(lot for lot in stands if not stands[lot]
                 and all(stands[other] for other in stands if set(other) < set(lot)))
    good = sorted(lot for lot in stands if stands[lot]
                  and not any(stands[other] for other in stands if set(lot) < set(other)))
    dropped = sorted(tuple(at for at in range(len(case[1])) if at not in lot) for lot in good)
    for call, wanted in ((bad_lots, bad), (good_lots, good), (dropped_lots, dropped)):
        test.assertTrue(same(calls_alike(test, call, case), wanted), (call, case))
    return bad


def wishing(at, case):
    """Return a case with a few more needs in its wish."""
    chance = random.Random(at)
    registry, wish, lock, mode = case
    names = slow.names(case) or ["a"]
    more = tuple((chance.choice(names), chance.choice([EVERY, LATE, EARLY]), (), True) for _ in range(chance.randint(0, 2)))
    return registry, wish + more, lock, mode


def blamed_told(case, steps):
    """Return what blamed is to return, told by the kinds of the axioms."""
    indexes, packs = set(), set()
    needs = {line: need for line, _, need in slow.needs_with_conditions(case)}
    for name in [step[1] for step in steps if step[0] == "axiom"]:
        if name[0] in ("range", "feature", "default"):
            line = name[1]
            indexes |= {line[1]} if line[0] == "wish" else set()
            packs |= {(line[1], line[2])} if line[0] != "wish" else set()
            packs |= {(needs[line][0], name[2])} if name[0] == "default" else set()
        elif name[0] not in ("loop", "absent"):
            packs |= {(name[1], name[2])}
            packs |= {(name[3], name[4])} if name[0] == "clash" else set()
    return tuple(sorted(indexes)), tuple(sorted(packs))


class TestLots(unittest.TestCase):
    def test_against_asking_every_lot(self):
        sizes = {}
        for at, (case, _, _) in enumerate(rows()):
            if slow.ways(case) <= 40:
                for lot in check(self, wishing(at, case)):
                    sizes[len(lot)] = sizes.get(len(lot), 0) + 1
        self.assertGreater(sizes[1], 50)
        self.assertGreater(sizes[2], 5)

    def test_no_wish(self):
        for case in (EMPTY, case_of([pack("a")], ())):
            self.assertEqual([bad_lots(case), good_lots(case), dropped_lots(case)], [[], [()], [()]])

    def test_nothing_wished_is_a_plan(self):
        case = case_of([], asked("a"))
        self.assertEqual([bad_lots(case), good_lots(case), dropped_lots(case)], [[(0,)], [()], [(0,)]])

    def test_lot_without_a_plan_in_a_greater_one_with_one(self):
        case = case_of([pack("a", peers=(("b", EVERY),)), pack("b")], asked("a", "b"))
        self.assertEqual([bad_lots(case), good_lots(case), dropped_lots(case)], [[(0,)], [(0, 1)], [()]])
        check(self, case)
        both = case_of([pack("a", peers=(("b", EVERY),)), pack("b", bars=(("c", EVERY),)), pack("c")], asked("a", "c", "b"))
        self.assertEqual([bad_lots(both), good_lots(both), dropped_lots(both)], [[(0,), (1, 2)], [(0, 2), (1,)], [(0, 2), (1,)]])

    def test_three_that_only_stand_two_by_two(self):
        needs = [(("x", ((ONE, TWO), ((3, 0, 0), None)), (), True),), (("x", LATE, (), True),), (("x", (((0, 0, 0), (3, 0, 0)),), (), True),)]
        packs = [pack(name, ONE, need) for name, need in zip("abc", needs)] + [pack("x", (at, 0, 0)) for at in (1, 2, 3)]
        case = case_of(packs, asked("a", "b", "c"))
        self.assertEqual([bad_lots(case), good_lots(case), dropped_lots(case)], [[(0, 1, 2)], [(0, 1), (0, 2), (1, 2)], [(0,), (1,), (2,)]])

    def test_large(self):
        seen = set()
        for case in (tight_case(0, 0.88), wide_case(1, 0.6, 5)):
            stands = {lot: first_plan(asked_alone(case, lot)) is not None for lot in lots(5)}
            for lot in bad_lots(case):
                self.assertFalse(stands[lot])
                self.assertTrue(all(stands[other] for other in stands if set(other) < set(lot)))
            for lot in good_lots(case):
                self.assertTrue(stands[lot])
                self.assertFalse(any(stands[other] for other in stands if set(lot) < set(other)))
            seen |= set(stands.values())
        self.assertEqual(seen, {True, False})

    def test_with_wishes(self):
        for at, (case, _, _) in enumerate(rows()):
            case = wishing(at, case)
            for lot in lots(len(case[1])):
                found = calls_alike(self, with_wishes, case, lot)
                self.assertTrue(same(found, asked_alone(case, lot)))
                self.assertIsNot(found[2], case[2])
                self.assertEqual(list(found[2]), sorted(found[2]))

    def test_lock_is_heeded(self):
        packs, gone = [pack("a"), pack("a", TWO)], (("a", ONE), ("a", TWO))
        self.assertEqual(bad_lots(case_of(packs, asked("a"), gone)), [(0,)])
        self.assertEqual(bad_lots(case_of(packs, asked("a"), gone, {"a": (TWO, ())})), [])


class TestBlamed(unittest.TestCase):
    def test_against_the_kinds(self):
        kinds = set()
        for case, _, _, steps, _, _ in derivations(3):
            self.assertTrue(same(calls_alike(self, blamed, case, steps), blamed_told(case, steps)))
            kinds |= {step[1][0] for step in steps if step[0] == "axiom"}
        self.assertEqual(len(kinds), 11)

    def test_papers_of_answers(self):
        for case, _, _ in rows():
            found = answer(case)
            steps = found[1] if found[0] == "none" else found[2][0]
            self.assertTrue(same(blamed(case, steps), blamed_told(case, steps)))

    def test_what_is_blamed_has_no_plan_alone(self):
        """The wish with just the needs that a none paper blames has no plan either."""
        many = 0
        for case, _, _ in rows():
            found = answer(case)
            if found[0] == "none" and slow.ways(case) <= 40 and not any(step[0] == "axiom" and step[1][0] == "loop" for step in found[1]):
                self.assertEqual(slow.plans(asked_alone(case, blamed(case, found[1])[0])), [])
                many += 1
        self.assertGreater(many, 50)

    def test_by_hand(self):
        app = pack("app", ONE, (("lib", EVERY, ("f",), False),), (("lib", LATE),), (("old", EVERY),), (("g", ("h",), asked("lib")), ("h", (), ())))
        lib = pack("lib", TWO, features=(("f", (), ()),), defaults=("f",), files=(("p", ""),))
        case = case_of([app, lib, pack("old", files=(("p", ""),))], (("app", EVERY, ("k",), True),) + asked("lib"), (("old", ONE),))
        need, extra, here = ("need", "app", ONE, 0), ("extra", "app", ONE, "g", 0), (("app", ONE),)
        told = [(("range", ("wish", 1)), ((1,), ())), (("range", need), ((), here)), (("feature", need, "f"), ((), here)),
                (("default", need, TWO, "f"), ((), here + (("lib", TWO),))), (("range", extra), ((), here)),
                (("also", "app", ONE, "g", "h"), ((), here)), (("known", "app", ONE, "k"), ((), here)),
                (("absent", "lib", "f"), ((), ())), (("peer", "app", ONE, 0), ((), here)), (("bar", "app", ONE, 0), ((), here)),
                (("clash", "lib", TWO, "old", ONE), ((), (("lib", TWO), ("old", ONE)))), (("withdrawn", "old", ONE), ((), (("old", ONE),)))]
        known = papers.axioms(case)
        for name, wanted in told:
            self.assertIn(name, known)
            self.assertEqual(blamed(case, (("axiom", name),)), wanted, name)
        loop = ("loop", (("lib",),), ("lib",), ((("app",), ONE), (("old",), ONE)))
        alone = case_of(case[0][0], asked("app"))
        self.assertIsNotNone(papers.axiom(alone, loop))
        self.assertEqual([blamed(alone, (("axiom", loop),)), blamed(case, ())], [((), ()), ((), ())])
        steps = (("axiom", loop), ("axiom", told[0][0]), ("axiom", ("range", need)), ("axiom", loop))
        self.assertEqual(blamed(case_of(case[0][0], asked("app", "app")), steps), ((1,), here))

    def test_default_of_the_wish(self):
        case = case_of([pack("a", features=(("f", (), ()),), defaults=("f",))], (("a", EVERY, (), False),))
        self.assertEqual(blamed(case, (("axiom", ("default", ("wish", 0), ONE, "f")),)), ((0,), (("a", ONE),)))


if __name__ == "__main__":
    unittest.main()
